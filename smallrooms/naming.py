"""Names: where they are set and used, and programs with names exchanged.

A sum is called a term here, since Python's own sum has that name.
"""

from smallrooms.programs import WORDS, all_deeds, blocks_of, deed_with, spots, term_of


def names_in(program):
    come_in = [row[0] for row in program[0]]
    return sorted(set(come_in + [deed[1] for path, deed in all_deeds(program) if deed[0] == "set"]))


def set_at(program, name):
    return [path for path, deed in all_deeds(program) if deed[0] == "set" and deed[1] == name]


def used_at(program, name):
    return [path for path, term in spots(program) if term == ("name", name)]


# The others are names by the names in whose stead they stand; all other names stay.
def exchanged(program, one, other):
    others = {one: other, other: one}
    ins = sorted([(others.get(name, name), low, high) for name, low, high in program[0]])
    return (tuple(ins), exchanged_block(program[1], others))


def exchanged_block(block, others):
    return tuple([exchanged_deed(deed, others) for deed in block])


def exchanged_deed(deed, others):
    term = exchanged_term(term_of(deed), others)
    if deed[0] == "set":
        return ("set", others.get(deed[1], deed[1]), term)
    return deed_with(deed, term, [exchanged_block(block, others) for number, block in blocks_of(deed)])


def exchanged_term(term, others):
    if term[0] == "name":
        return ("name", others.get(term[1], term[1]))
    if term[0] in WORDS:
        return (term[0], exchanged_term(term[1], others), exchanged_term(term[2], others))
    return term
