"""Programs made simpler by what a paper shows.

A sum is called a term here, since Python's own sum has that name.
Notes are the stretches noted by the paths of their spots, and clear those of them whose spots have no mark.
"""

from smallrooms.papers import ZERO, notes_by
from smallrooms.plans import plan_by
from smallrooms.programs import WORDS, blocks_of, deed_with, spots_of_term, term_of
from smallrooms.stretches import is_within


def simpler(program, paper):
    notes = notes_by(program, paper)
    clear = {}
    for path, bits, marks in plan_by(program, paper):
        if marks == ():
            clear[path] = notes[path]
    return (program[0], simpler_block(program[1], (), notes, clear))


def simpler_block(block, path, notes, clear):
    deeds = []
    for at, deed in enumerate(block):
        deeds.extend(deeds_in_stead(deed, path + (at,), notes, clear))
    return tuple(deeds)


def deeds_in_stead(deed, path, notes, clear):
    term = term_of(deed)
    if not is_any_noted(term, path + (0,), notes):
        return ()
    blocks = [simpler_block(block, path + (number,), notes, clear) for number, block in blocks_of(deed)]
    stretch = sure_stretch(term, path + (0,), clear)
    if deed[0] == "if" and stretch is not None and not is_within(ZERO, stretch):
        return blocks[0]
    if deed[0] == "if" and stretch == ZERO:
        return blocks[1]
    if deed[0] == "while" and stretch == ZERO:
        return ()
    return (deed_with(deed, simpler_term(term, path + (0,), clear), blocks),)


def is_any_noted(term, path, notes):
    return any([row[0] in notes for row in spots_of_term(term, path)])


# From the outside: a term within one that becomes a number is not asked about.
def simpler_term(term, path, clear):
    stretch = sure_stretch(term, path, clear)
    if stretch is not None and stretch[0] == stretch[1]:
        return ("num", stretch[0])
    if term[0] not in WORDS:
        return term
    return (term[0], simpler_term(term[1], path + (0,), clear), simpler_term(term[2], path + (1,), clear))


# None, where the term is not sure: it or a term in it may be refused, or is not shown.
def sure_stretch(term, path, clear):
    if not all([row[0] in clear for row in spots_of_term(term, path)]):
        return None
    return clear[path]
