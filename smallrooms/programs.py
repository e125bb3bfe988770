"""Programs: what is one, and the paths of its sums and whiles.

A sum is called a term here, since Python's own sum has that name.
"""

WIDE = (-32768, 32767)

LETTERS = "abcdefghijklmnopqrstuvwxyz"
MOST_LETTERS = 2

MOST_INS = 4
LEAST_IN = -99
GREATEST_IN = 99

DEEDS = ("set", "if", "while")
MOST_DEEDS = 6
MOST_ROUNDS = 20
DEEPEST_BLOCK = 3

WORDS = ("add", "sub", "mul", "quo", "less", "same", "min", "max")
DEEPEST_TERM = 5


def is_program(thing):
    if not is_tuple_of(thing, 2):
        return False
    if not are_ins(thing[0]) or not is_block(thing[1], DEEPEST_BLOCK):
        return False
    known = tuple([row[0] for row in thing[0]])
    return known_behind_block(thing[1], known) is not None


# Rows of deeds and of the sums in a sum rise, and all paths of a deed's sum stand ahead of those in its blocks.
def spots(program):
    rows = []
    for path, deed in all_deeds(program):
        rows.extend(spots_of_term(term_of(deed), path + (0,)))
    return rows


def whiles(program):
    return [path for path, deed in all_deeds(program) if deed[0] == "while"]


# True and False are ints to Python, but they are no whole numbers here.
def is_whole(thing):
    return isinstance(thing, int) and not isinstance(thing, bool)


def is_whole_from(thing, low, high):
    return is_whole(thing) and low <= thing and thing <= high


def is_tuple_of(thing, many):
    return isinstance(thing, tuple) and len(thing) == many


def is_path(thing):
    return isinstance(thing, tuple) and all([is_whole(number) for number in thing])


def is_name(thing):
    if not isinstance(thing, str) or len(thing) < 1 or len(thing) > MOST_LETTERS:
        return False
    return all([sign in LETTERS for sign in thing])


# Whether any thing is a tuple of rows whose first parts rise; these are asked about only once all are rows.
def are_rising_rows(thing, is_row):
    if not isinstance(thing, tuple) or not all([is_row(row) for row in thing]):
        return False
    return all([one[0] < other[0] for one, other in zip(thing, thing[1:])])


def are_ins(thing):
    return are_rising_rows(thing, is_in) and len(thing) <= MOST_INS


def is_in(thing):
    if not is_tuple_of(thing, 3) or not is_name(thing[0]):
        return False
    # The high is held against the low, once the low is known to be a number.
    return is_whole_from(thing[1], LEAST_IN, GREATEST_IN) and is_whole_from(thing[2], thing[1], GREATEST_IN)


# The levels are how deep the thing may be, itself counted, so that any thing is gone into no deeper than that.
def is_block(thing, levels):
    if levels < 1 or not isinstance(thing, tuple) or len(thing) > MOST_DEEDS:
        return False
    return all([is_deed(deed, levels) for deed in thing])


def is_deed(thing, levels):
    if is_tuple_of(thing, 3):
        return thing[0] == "set" and is_name(thing[1]) and is_term(thing[2], DEEPEST_TERM)
    if not is_tuple_of(thing, 4) or not is_term(thing[1], DEEPEST_TERM) or not is_block(thing[3], levels - 1):
        return False
    if thing[0] == "if":
        return is_block(thing[2], levels - 1)
    return thing[0] == "while" and is_whole_from(thing[2], 0, MOST_ROUNDS)


def is_term(thing, levels):
    if levels < 1:
        return False
    if is_tuple_of(thing, 2):
        if thing[0] == "num":
            return is_whole_from(thing[1], WIDE[0], WIDE[1])
        return thing[0] == "name" and is_name(thing[1])
    if not is_tuple_of(thing, 3) or thing[0] not in WORDS:
        return False
    return is_term(thing[1], levels - 1) and is_term(thing[2], levels - 1)


# The names surely known behind, told from those known ahead; None, where a sum has a name that is not known there.
def known_behind_block(block, known):
    for deed in block:
        known = known_behind_deed(deed, known)
        if known is None:
            return None
    return known


def known_behind_deed(deed, known):
    if not has_known_names(term_of(deed), known):
        return None
    if deed[0] == "set":
        return known + (deed[1],)
    ends = [known_behind_block(block, known) for number, block in blocks_of(deed)]
    if None in ends:
        return None
    if deed[0] == "if":
        return tuple([name for name in ends[0] if name in ends[1]])
    # A while may do its block not even once.
    return known


def has_known_names(term, known):
    if term[0] == "num":
        return True
    if term[0] == "name":
        return term[1] in known
    return has_known_names(term[1], known) and has_known_names(term[2], known)


def term_of(deed):
    if deed[0] == "set":
        return deed[2]
    return deed[1]


# Each block of a deed with the number that its path has behind the deed's.
def blocks_of(deed):
    if deed[0] == "if":
        return [(1, deed[2]), (2, deed[3])]
    if deed[0] == "while":
        return [(1, deed[3])]
    return []


# A deed of the same kind with another sum, and with other blocks, as many as it has.
def deed_with(deed, term, blocks):
    if deed[0] == "set":
        return ("set", deed[1], term)
    if deed[0] == "if":
        return ("if", term, blocks[0], blocks[1])
    return ("while", term, deed[2], blocks[0])


# All deeds with their paths, those in blocks of deeds too.
# A path stands ahead of all that it begins, and 0 ahead of 1 ahead of 2: told in the order of the walk, rows rise.
def all_deeds(program):
    return deeds_of_block(program[1], ())


def deeds_of_block(block, path):
    rows = []
    for at, deed in enumerate(block):
        deed_path = path + (at,)
        rows.append((deed_path, deed))
        for number, inner in blocks_of(deed):
            rows.extend(deeds_of_block(inner, deed_path + (number,)))
    return rows


def spots_of_term(term, path):
    if term[0] == "num" or term[0] == "name":
        return [(path, term)]
    return [(path, term)] + spots_of_term(term[1], path + (0,)) + spots_of_term(term[2], path + (1,))
