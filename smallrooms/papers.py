"""Papers: what is known at each while, found and read, and the stretches that are shown by it.

A sum is called a term here, since Python's own sum has that name.
Heads are a dict of books, what is known at each while, by the whiles' paths. A program is gone through once by heads,
whether they hold or not, and what they ought to have held is kept beside what is noted: so the reader only compares
the two, and the finder goes on from what was missing.
"""

from smallrooms.errors import BadPaper
from smallrooms.programs import WIDE, are_rising_rows, is_path, is_tuple_of, is_whole_from
from smallrooms.shelves import behind
from smallrooms.stretches import is_within, joined, met, stretch_of

ZERO = (0, 0)

# A while within a while, with 20 rounds each, is known by so many passes, if its numbers come to rest at all.
PLAIN_PASSES = 60
NARROWING_PASSES = 6


class Walk:
    def __init__(self, heads):
        self.heads = heads
        self.notes = {}
        self.wants = {}


def shown(program, paper):
    notes = notes_by(program, paper)
    return [(path,) + notes[path] for path in sorted(notes)]


def is_paper(program, thing):
    return walk_by_paper(program, thing) is not None


def paper_for(program):
    return paper_of(narrowed(program, grown_to_hold(program, {})))


# The stretches noted, by the paths of their spots.
def notes_by(program, paper):
    walk = walk_by_paper(program, paper)
    if walk is None:
        raise BadPaper("this is no paper of the program")
    return walk.notes


# None, where any thing is no paper of the program.
def walk_by_paper(program, thing):
    if not are_rising_rows(thing, is_paper_row):
        return None
    heads = heads_of(thing)
    walk = walked(program, heads)
    if not is_held(walk.wants, heads):
        return None
    return walk


def is_paper_row(thing):
    return is_tuple_of(thing, 2) and is_path(thing[0]) and are_rising_rows(thing[1], is_shelf_row)


# Which names a shelf must have is for the program to say, so here they may be any texts.
def is_shelf_row(thing):
    if not is_tuple_of(thing, 3) or not isinstance(thing[0], str):
        return False
    return is_whole_from(thing[1], WIDE[0], WIDE[1]) and is_whole_from(thing[2], thing[1], WIDE[1])


def heads_of(paper):
    heads = {}
    for path, shelf in paper:
        heads[path] = book_of(shelf)
    return heads


def book_of(shelf):
    book = {}
    for name, low, high in shelf:
        book[name] = (low, high)
    return book


def paper_of(heads):
    return tuple([(path, shelf_of(heads[path])) for path in sorted(heads)])


def shelf_of(book):
    return tuple([(name,) + book[name] for name in sorted(book)])


# Heads hold where they have just the whiles that are reached, each with all that is wanted there.
def is_held(wants, heads):
    if sorted(wants) != sorted(heads):
        return False
    return all([is_book_within(wants[path], heads[path]) for path in wants])


def is_book_within(one, other):
    if sorted(one) != sorted(other):
        return False
    return all([is_within(one[name], other[name]) for name in one])


def walked(program, heads):
    walk = Walk(heads)
    go_block(program[1], (), book_of(program[0]), walk)
    return walk


# Deeds and blocks are handed what is known ahead and tell what is known behind; None, where nothing goes on.
def go_block(block, path, book, walk):
    for at, deed in enumerate(block):
        if book is None:
            return None
        book = go_deed(deed, path + (at,), book, walk)
    return book


def go_deed(deed, path, book, walk):
    if deed[0] == "set":
        return go_set(deed, path, book, walk)
    if deed[0] == "if":
        return go_if(deed, path, book, walk)
    return go_while(deed, path, book, walk)


def go_set(deed, path, book, walk):
    has = show(deed[2], path + (0,), book, walk)
    if has is None:
        return None
    end = dict(book)
    end[deed[1]] = has
    return end


def go_if(deed, path, book, walk):
    has = show(deed[1], path + (0,), book, walk)
    one = go_block(deed[2], path + (1,), side_of(deed[1], has, book, True), walk)
    other = go_block(deed[3], path + (2,), side_of(deed[1], has, book, False), walk)
    return joined_books(one, other)


# The head is made to fit what is known ahead; a head that holds is one that fits already.
def go_while(deed, path, book, walk):
    head = joined_to(book, walk.heads.get(path, {}))
    has = show(deed[1], path + (0,), head, walk)
    end = go_block(deed[3], path + (1,), side_of(deed[1], has, head, True), walk)
    walk.wants[path] = joined_books(book, end)
    return side_of(deed[1], has, head, False)


# What is known where a question is so, or not so; None, where what its term has tells that it never is.
def side_of(term, has, book, is_so):
    can_be = not is_within(has, ZERO) if is_so else is_within(ZERO, has)
    if not can_be:
        return None
    return behind(term, book, is_so)


# What is noted may be beyond the wide room, what a term has is not; None, where it has nothing, or a term in it.
def show(term, path, book, walk):
    if term[0] == "num":
        return noted((term[1], term[1]), path, walk)
    if term[0] == "name":
        return noted(book.get(term[1]), path, walk)
    one = show(term[1], path + (0,), book, walk)
    if one is None:
        return None
    other = show(term[2], path + (1,), book, walk)
    return noted(stretch_of(term[0], one, other), path, walk)


def noted(stretch, path, walk):
    if stretch is not None:
        walk.notes[path] = stretch
    return met(stretch, WIDE)


# Without an end on one side, all of the other stays.
def joined_books(one, other):
    if one is None:
        return other
    if other is None:
        return one
    both = {}
    for name in one:
        if name in other:
            both[name] = joined(one[name], other[name])
    return both


def joined_to(book, other):
    both = {}
    for name in book:
        both[name] = joined(book[name], other.get(name))
    return both


# Heads are made greater by what they want until they hold. Where numbers do not come to rest by themselves, what still
# moves goes to the edge of the wide room at once, where it stays.
def grown_to_hold(program, heads):
    passes = 0
    while True:
        wants = walked(program, heads).wants
        if is_held(wants, heads):
            return heads
        heads = grown(heads, wants, passes >= PLAIN_PASSES)
        passes = passes + 1


# Heads that went to the edge may be more than is wanted there, so they are found anew from what is.
def narrowed(program, heads):
    for turn in range(NARROWING_PASSES):
        less = grown_to_hold(program, walked(program, heads).wants)
        if less == heads:
            return heads
        heads = less
    return heads


def grown(heads, wants, is_hasty):
    greater = {}
    for path in wants:
        before = heads.get(path, {})
        greater[path] = joined_to(wants[path], before)
        if is_hasty:
            greater[path] = hastened(before, greater[path])
    return greater


def hastened(before, book):
    greater = {}
    for name in book:
        old = before.get(name, book[name])
        low = book[name][0] if book[name][0] == old[0] else WIDE[0]
        high = book[name][1] if book[name][1] == old[1] else WIDE[1]
        greater[name] = joined(book[name], (low, high))
    return greater
