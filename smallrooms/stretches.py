"""Stretches: all numbers from a low to a high, told as a tuple of the two, or None, the stretch of none."""

from smallrooms.running import worth_of


def joined(one, other):
    if one is None:
        return other
    if other is None:
        return one
    return (min(one[0], other[0]), max(one[1], other[1]))


def met(one, other):
    if one is None or other is None:
        return None
    return between(max(one[0], other[0]), min(one[1], other[1]))


def is_within(one, other):
    return met(one, other) == one


def between(low, high):
    if low > high:
        return None
    return (low, high)


# One sign of what is divided by goes up or down all along; so quo is asked for each sign by itself, and 0 left out.
def stretch_of(word, one, other):
    if word == "same":
        return stretch_of_same(one, other)
    if word == "quo" and other is not None:
        below = between(other[0], min(other[1], -1))
        above = between(max(other[0], 1), other[1])
        return joined(stretch_of_ends(word, one, below), stretch_of_ends(word, one, above))
    return stretch_of_ends(word, one, other)


def stretch_of_same(one, other):
    if one is None or other is None:
        return None
    is_sure = one == other and one[0] == one[1]
    can_be = met(one, other) is not None
    return (1 if is_sure else 0, 1 if can_be else 0)


# A word that only rises or only falls, while one of its worths rises and the other stays, has its least and its
# greatest worth for ends of the two stretches.
def stretch_of_ends(word, one, other):
    if one is None or other is None:
        return None
    ends = [worth_of(word, low_or_high, other[0]) for low_or_high in one]
    ends.extend([worth_of(word, low_or_high, other[1]) for low_or_high in one])
    return (min(ends), max(ends))
