"""Runs: what a program comes to for the worths that come in, and what is reckoned on the way.

A sum is called a term here, since Python's own sum has that name.
Within a run, names are a dict of worths by names, which grows as the run goes. What becomes of a worth at its spot is
for settle(worth, path) to say: ("had", worth), by which the run goes on, or the refusal that ends it. The worth is None
where there is none, at a quo by 0.
"""

from smallrooms.errors import NoWorths
from smallrooms.programs import WIDE, is_tuple_of, is_whole_from


def run(program, worths):
    return run_by(program, worths, lambda worth, path: settled(worth, path, []))


def traced(program, worths):
    rows = []
    run_by(program, worths, lambda worth, path: settled(worth, path, rows))
    return rows


def run_by(program, worths, settle):
    names = names_at_first(program[0], worths)
    refusal = do_block(program[1], (), names, settle)
    if refusal is not None:
        return refusal
    return ("told", tuple(sorted(names.items())))


# A worth without room is had all the same, so its row is noted ahead of the refusal.
def settled(worth, path, rows):
    if worth is None:
        return ("refused", "zero", path)
    rows.append((path, worth))
    if worth < WIDE[0] or worth > WIDE[1]:
        return ("refused", "over", path)
    return ("had", worth)


def names_at_first(ins, worths):
    if not is_tuple_of(worths, len(ins)):
        raise NoWorths("there is not one worth for each that comes in")
    names = {}
    for row, worth in zip(ins, worths):
        if not is_whole_from(worth, row[1], row[2]):
            raise NoWorths("a worth is not from the low to the high of what comes in")
        names[row[0]] = worth
    return names


# Deeds and blocks tell None, where the run goes on, or the refusal that ends it, as run tells it.
def do_block(block, path, names, settle):
    for at, deed in enumerate(block):
        refusal = do_deed(deed, path + (at,), names, settle)
        if refusal is not None:
            return refusal
    return None


def do_deed(deed, path, names, settle):
    if deed[0] == "set":
        return do_set(deed, path, names, settle)
    if deed[0] == "if":
        return do_if(deed, path, names, settle)
    return do_while(deed, path, names, settle)


def do_set(deed, path, names, settle):
    had = reckon(deed[2], path + (0,), names, settle)
    if had[0] == "refused":
        return had
    names[deed[1]] = had[1]
    return None


def do_if(deed, path, names, settle):
    had = reckon(deed[1], path + (0,), names, settle)
    if had[0] == "refused":
        return had
    if had[1] != 0:
        return do_block(deed[2], path + (1,), names, settle)
    return do_block(deed[3], path + (2,), names, settle)


def do_while(deed, path, names, settle):
    done = 0
    while True:
        had = reckon(deed[1], path + (0,), names, settle)
        if had[0] == "refused":
            return had
        if had[1] == 0:
            return None
        if done >= deed[2]:
            return ("refused", "long", path)
        refusal = do_block(deed[3], path + (1,), names, settle)
        if refusal is not None:
            return refusal
        done = done + 1


# A term tells what settle tells of its worth, or of that of a term in it, where this is refused.
def reckon(term, path, names, settle):
    if term[0] == "num":
        return settle(term[1], path)
    if term[0] == "name":
        return settle(names[term[1]], path)
    one = reckon(term[1], path + (0,), names, settle)
    if one[0] == "refused":
        return one
    other = reckon(term[2], path + (1,), names, settle)
    if other[0] == "refused":
        return other
    if term[0] == "quo" and other[1] == 0:
        return settle(None, path)
    return settle(worth_of(term[0], one[1], other[1]), path)


def worth_of(word, one, other):
    if word == "add":
        return one + other
    if word == "sub":
        return one - other
    if word == "mul":
        return one * other
    if word == "quo":
        return one // other
    if word == "less":
        return 1 if one < other else 0
    if word == "same":
        return 1 if one == other else 0
    if word == "min":
        return min(one, other)
    return max(one, other)
