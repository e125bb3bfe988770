"""What is known of names: the stretch of a sum by a book of stretches, and the book behind a question.

A sum is called a term here, since Python's own sum has that name.
"""

from smallrooms.programs import WIDE
from smallrooms.stretches import between, met, stretch_of


# A name that the book does not have has nothing.
def reckoned_from(term, book):
    if term[0] == "num":
        return (term[1], term[1])
    if term[0] == "name":
        return book.get(term[1])
    return met(stretch_of(term[0], reckoned_from(term[1], book), reckoned_from(term[2], book)), WIDE)


def behind(term, book, is_so):
    if term[0] == "name":
        return with_left(book, term[1], left_of_name(book.get(term[1]), is_so))
    if term[0] == "less" or term[0] == "same":
        return behind_question(term, book, is_so)
    return dict(book)


# The stretches of the two terms are those ahead, also for the second name, whose own is that behind the first change:
# the two are unlike only where both are the same name.
def behind_question(term, book, is_so):
    one = reckoned_from(term[1], book)
    other = reckoned_from(term[2], book)
    if one is None or other is None:
        return None
    left = dict(book)
    if term[1][0] == "name":
        left = with_left(left, term[1][1], left_of_one(term[0], one, other, is_so))
    if left is not None and term[2][0] == "name":
        own = left[term[2][1]]
        left = with_left(left, term[2][1], left_of_other(term[0], own, one, is_so))
    return left


def with_left(book, name, stretch):
    if stretch is None:
        return None
    left = dict(book)
    left[name] = stretch
    return left


def left_of_name(own, is_so):
    if own is None or not is_so:
        return met(own, (0, 0))
    return without(own, 0)


def left_of_one(word, own, other, is_so):
    if word == "same":
        return left_by_same(own, other, is_so)
    if is_so:
        return between(own[0], min(own[1], other[1] - 1))
    return between(max(own[0], other[0]), own[1])


def left_of_other(word, own, one, is_so):
    if word == "same":
        return left_by_same(own, one, is_so)
    if is_so:
        return between(max(own[0], one[0] + 1), own[1])
    return between(own[0], min(own[1], one[1]))


def left_by_same(own, beside, is_so):
    if is_so:
        return met(own, beside)
    if beside[0] != beside[1]:
        return own
    return without(own, beside[0])


# A worth in the midst can not be taken out of a stretch.
def without(own, worth):
    if worth == own[0]:
        return between(own[0] + 1, own[1])
    if worth == own[1]:
        return between(own[0], own[1] - 1)
    return own
