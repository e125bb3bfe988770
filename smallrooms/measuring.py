"""Measures: how much of what is in a program, and how deep.

A sum is called a term here, since Python's own sum has that name.
"""

from smallrooms.programs import DEEDS, WORDS, all_deeds, blocks_of, spots, term_of


def words_in(program):
    many = {}
    for path, term in spots(program):
        many[term[0]] = many.get(term[0], 0) + 1
    return sorted(many.items())


def deeds_in(program):
    kinds = [deed[0] for path, deed in all_deeds(program)]
    return tuple([kinds.count(kind) for kind in DEEDS])


def depths(program):
    terms = [term_of(deed) for path, deed in all_deeds(program)]
    return (max([depth_of_term(term) for term in terms], default=0), depth_of_block(program[1]))


def depth_of_term(term):
    if term[0] not in WORDS:
        return 1
    return 1 + max(depth_of_term(term[1]), depth_of_term(term[2]))


# An empty block is one deep, too.
def depth_of_block(block):
    return 1 + max([depth_of_deed(deed) for deed in block], default=0)


def depth_of_deed(deed):
    return max([depth_of_block(block) for number, block in blocks_of(deed)], default=0)
