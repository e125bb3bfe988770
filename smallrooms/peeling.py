"""Whiles with a round taken out."""

from smallrooms.programs import all_deeds, blocks_of, deed_with, term_of


def peeled(program, path):
    deed = dict(all_deeds(program)).get(path)
    if deed is None or deed[0] != "while" or deed[2] < 1:
        return program
    return (program[0], block_with(program[1], (), path, round_and_rest(deed)))


def round_and_rest(deed):
    rest = ("while", deed[1], deed[2] - 1, deed[3])
    return ("if", deed[1], deed[3] + (rest,), ())


# The block, which has a path itself, with another deed in the stead of the one at a path.
def block_with(block, path, deed_path, other):
    return tuple([deed_or(deed, path + (at,), deed_path, other) for at, deed in enumerate(block)])


def deed_or(deed, path, deed_path, other):
    if path == deed_path:
        return other
    blocks = [block_with(block, path + (number,), deed_path, other) for number, block in blocks_of(deed)]
    return deed_with(deed, term_of(deed), blocks)
