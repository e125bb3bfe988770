"""Plans: the bits and marks of spots, runs by them, and the rooms of names."""

from smallrooms.errors import BadPlan
from smallrooms.papers import book_of, notes_by
from smallrooms.programs import WIDE, all_deeds, are_rising_rows, is_path, is_tuple_of, spots
from smallrooms.running import run_by
from smallrooms.stretches import is_within, joined, met

BITS = (4, 8, 16)
ROOMS = {4: (-8, 7), 8: (-128, 127), 16: (-32768, 32767)}
MARKS = ((), ("over",), ("zero",), ("over", "zero"))

# The bits and marks of a spot of which a plan says nothing.
FULL = (16, ("over", "zero"))


def room_of(bits):
    return ROOMS[bits]


def wrapped(worth, bits):
    room = room_of(bits)
    return (worth - room[0]) % (room[1] - room[0] + 1) + room[0]


def is_plan(program, thing):
    paths = dict(spots(program))
    return are_rising_rows(thing, lambda row: is_plan_row(row, paths))


# A path is looked for only once it is known to be one: a truth would be found as the number that it equals.
def is_plan_row(thing, paths):
    if not is_tuple_of(thing, 3) or not is_path(thing[0]) or thing[0] not in paths:
        return False
    return thing[1] in BITS and thing[2] in MARKS


def plan_by(program, paper):
    notes = notes_by(program, paper)
    return tuple([plan_row(path, term, notes) for path, term in spots(program) if path in notes])


def plan_row(path, term, notes):
    stretch = notes[path]
    marks = ()
    if not is_within(stretch, WIDE):
        marks = marks + ("over",)
    if term[0] == "quo" and is_within((0, 0), notes[path + (1,)]):
        marks = marks + ("zero",)
    return (path, fewest_bits(met(stretch, WIDE)), marks)


# For what has no room in any, as only names can that come in from beyond the wide room, the most have to do.
def fewest_bits(stretch):
    for bits in BITS:
        if is_within(stretch, room_of(bits)):
            return bits
    return BITS[-1]


def many_marks(plan):
    return sum([len(row[2]) for row in plan])


# The bits and marks that a plan tells, by the paths of their spots.
def rows_by_path(program, plan):
    if not is_plan(program, plan):
        raise BadPlan("this is no plan of the program")
    rows = {}
    for path, bits, marks in plan:
        rows[path] = (bits, marks)
    return rows


def run_narrow(program, plan, worths):
    rows = rows_by_path(program, plan)
    return run_by(program, worths, lambda worth, path: settled_narrow(worth, path, rows.get(path, FULL)))


def settled_narrow(worth, path, row):
    if worth is None:
        return ("refused", "zero", path) if "zero" in row[1] else ("had", 0)
    if "over" in row[1] and not is_within((worth, worth), WIDE):
        return ("refused", "over", path)
    return ("had", wrapped(worth, row[0]))


def name_rooms(program, paper):
    notes = notes_by(program, paper)
    holds = book_of(program[0])
    for path, deed in all_deeds(program):
        stretch = met(notes.get(path + (0,)), WIDE)
        if deed[0] == "set" and stretch is not None:
            holds[deed[1]] = joined(holds.get(deed[1]), stretch)
    return tuple([(name, fewest_bits(holds[name])) for name in sorted(holds)])
