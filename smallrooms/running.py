"""Runs: what a program comes to for the worths that come in, and what is reckoned on the way.

A sum is called a term here, since Python's own sum has that name.
Within a run, names are a dict of worths by names, and rows a list of what was reckoned; both grow as the run goes.
"""

from smallrooms.errors import NoWorths
from smallrooms.programs import GREATEST, LEAST, is_tuple_of, is_whole_from


def run(program, worths):
    names = names_at_first(program[0], worths)
    refusal = do_block(program[1], (), names, [])
    if refusal is not None:
        return refusal
    return ("told", tuple(sorted(names.items())))


def traced(program, worths):
    names = names_at_first(program[0], worths)
    rows = []
    do_block(program[1], (), names, rows)
    return rows


def names_at_first(ins, worths):
    if not is_tuple_of(worths, len(ins)):
        raise NoWorths("there is not one worth for each that comes in")
    names = {}
    for row, worth in zip(ins, worths):
        if not is_whole_from(worth, row[1], row[2]):
            raise NoWorths("a worth is not from the low to the high of what comes in")
        names[row[0]] = worth
    return names


# Deeds and blocks tell None, where the run goes on, or the refusal that ends it, as run tells it.
def do_block(block, path, names, rows):
    for at, deed in enumerate(block):
        refusal = do_deed(deed, path + (at,), names, rows)
        if refusal is not None:
            return refusal
    return None


def do_deed(deed, path, names, rows):
    if deed[0] == "set":
        return do_set(deed, path, names, rows)
    if deed[0] == "if":
        return do_if(deed, path, names, rows)
    return do_while(deed, path, names, rows)


def do_set(deed, path, names, rows):
    had = reckon(deed[2], path + (0,), names, rows)
    if had[0] == "refused":
        return had
    names[deed[1]] = had[1]
    return None


def do_if(deed, path, names, rows):
    had = reckon(deed[1], path + (0,), names, rows)
    if had[0] == "refused":
        return had
    if had[1] != 0:
        return do_block(deed[2], path + (1,), names, rows)
    return do_block(deed[3], path + (2,), names, rows)


def do_while(deed, path, names, rows):
    done = 0
    while True:
        had = reckon(deed[1], path + (0,), names, rows)
        if had[0] == "refused":
            return had
        if had[1] == 0:
            return None
        if done >= deed[2]:
            return ("refused", "long", path)
        refusal = do_block(deed[3], path + (1,), names, rows)
        if refusal is not None:
            return refusal
        done = done + 1


# A term tells ("had", worth), or the refusal that ends the run.
def reckon(term, path, names, rows):
    if term[0] == "num":
        return let_by(term[1], path, rows)
    if term[0] == "name":
        return let_by(names[term[1]], path, rows)
    one = reckon(term[1], path + (0,), names, rows)
    if one[0] == "refused":
        return one
    other = reckon(term[2], path + (1,), names, rows)
    if other[0] == "refused":
        return other
    if term[0] == "quo" and other[1] == 0:
        return ("refused", "zero", path)
    return let_by(worth_of(term[0], one[1], other[1]), path, rows)


# A worth without room is had all the same, so its row is noted ahead of the refusal.
def let_by(worth, path, rows):
    rows.append((path, worth))
    if worth < LEAST or worth > GREATEST:
        return ("refused", "over", path)
    return ("had", worth)


def worth_of(word, one, other):
    if word == "add":
        return one + other
    if word == "sub":
        return one - other
    if word == "mul":
        return one * other
    if word == "quo":
        return one // other
    if word == "less":
        return 1 if one < other else 0
    if word == "same":
        return 1 if one == other else 0
    if word == "min":
        return min(one, other)
    return max(one, other)
