"""All runs of a program: what they come to, the marks that they need, and a program in two parts."""

from smallrooms.papers import book_of
from smallrooms.plans import FULL, rows_by_path
from smallrooms.programs import spots
from smallrooms.running import run, traced
from smallrooms.stretches import between, joined


def all_worths(program):
    begun = [()]
    for name, low, high in program[0]:
        longer = []
        for row in begun:
            longer.extend([row + (worth,) for worth in range(low, high + 1)])
        begun = longer
    return begun


def exact(program):
    had = {}
    for worths in all_worths(program):
        for path, worth in traced(program, worths):
            had[path] = joined(had.get(path), (worth, worth))
    return [(path,) + had[path] for path in sorted(had)]


def refusals(program):
    return sorted(ways_refused(program))


# A dict of True by the words and paths as which any run is refused.
def ways_refused(program):
    found = {}
    for worths in all_worths(program):
        told = run(program, worths)
        if told[0] == "refused":
            found[told[1:]] = True
    return found


def witness(program, word, path):
    for worths in all_worths(program):
        if run(program, worths) == ("refused", word, path):
            return worths
    return None


def full_plan(program):
    return tuple([(path,) + FULL for path, term in spots(program)])


def bare_plan(program, plan):
    rows = rows_by_path(program, plan)
    needed = ways_refused(program)
    return tuple([(path, rows[path][0], needed_of(rows[path][1], path, needed)) for path in sorted(rows)])


def needed_of(marks, path, needed):
    return tuple([mark for mark in marks if (mark, path) in needed])


def joined_plans(program, one, other):
    rows = rows_by_path(program, one)
    others = rows_by_path(program, other)
    return tuple([joined_row(path, rows[path], others[path]) for path in sorted(rows) if path in others])


def joined_row(path, one, other):
    return (path, max(one[0], other[0]), tuple(sorted(set(one[1] + other[1]))))


def parted(program, name, at):
    stretch = book_of(program[0]).get(name)
    if stretch is None:
        return (program, program)
    up_to = between(stretch[0], min(stretch[1], at))
    above = between(max(stretch[0], at + 1), stretch[1])
    return (with_in(program, name, up_to), with_in(program, name, above))


# None, where nothing could come in by the name.
def with_in(program, name, stretch):
    if stretch is None:
        return None
    ins = tuple([(name,) + stretch if row[0] == name else row for row in program[0]])
    return (ins, program[1])
