"""3.3 and 0.2 (b): the stretch of a sum by what is known of names, and what is known of names behind a question."""

import itertools
import random
import unittest

from samples import drawn_sum, name, num
from smallrooms.programs import WORDS
from smallrooms.shelves import behind, reckoned_from
from smallrooms.running import run

LEAST, GREATEST = -32768, 32767
WIDE = (LEAST, GREATEST)

A, B, C = name("a"), name("b"), name("c")


def have(stretch):
    return set(range(stretch[0], stretch[1] + 1))


def hull(worths):
    return (min(worths), max(worths)) if worths else None


def worth(term, names):
    """The sum's worth, or None where it is refused."""
    program = (tuple((n, names[n], names[n]) for n in sorted(names)), (("set", "told", term),))
    told = run(program, tuple(names[n] for n in sorted(names)))
    return dict(told[1])["told"] if told[0] == "told" else None


def all_names(book):
    for worths in itertools.product(*[sorted(have(book[n])) for n in book]):
        yield dict(zip(book, worths))


def least_behind(term, book, is_so):
    """The least book that has all names' worths for which the question is so; None, where there are none."""
    found = [names for names in all_names(book) if worth(term, names) is not None and (worth(term, names) != 0) == is_so]
    return {n: hull([names[n] for names in found]) for n in book} if found else None


def behind_by_worths(term, book, is_so):
    """What 3.3 says of a question, worth by worth."""
    left = {n: have(book[n]) for n in book}
    if term[0] == "name":
        own = left[term[1]]
        left[term[1]] = (own - {0} if 0 in (min(own), max(own)) else own) if is_so else own & {0}
    elif term[0] in ("less", "same"):
        one, other = reckoned_from(term[1], book), reckoned_from(term[2], book)
        if one is None or other is None:
            return None
        keeps = {
            ("less", True): (lambda w: w < other[1], lambda w: w > one[0]),
            ("less", False): (lambda w: w >= other[0], lambda w: w <= one[1]),
            ("same", True): (lambda w: w in have(other), lambda w: w in have(one)),
            ("same", False): (lambda w: (w, w) != other, lambda w: (w, w) != one)}[term[0], is_so]
        for asked, keep in zip(term[1:], keeps):
            own = left[asked[1]] if asked[0] == "name" else None
            if own:
                kept = {w for w in own if keep(w)}
                is_midst = hull(kept) is not None and len(kept) != kept_width(kept)
                left[asked[1]] = own if is_midst else kept
    return {n: hull(left[n]) for n in book} if all(left.values()) else None


def kept_width(worths):
    return max(worths) - min(worths) + 1


class ReckonedTest(unittest.TestCase):
    book = {"a": (-2, 3), "b": (5, 5), "w": WIDE}

    def test_num_and_name(self):
        for n in (LEAST, -1, 0, 1, GREATEST):
            self.assertEqual(reckoned_from(num(n), {}), (n, n))
        self.assertEqual(reckoned_from(A, self.book), (-2, 3))
        self.assertEqual(reckoned_from(B, self.book), (5, 5))
        self.assertEqual(reckoned_from(name("w"), self.book), WIDE)

    def test_words(self):
        for word, told in (
                ("add", (3, 8)), ("sub", (-7, -2)), ("mul", (-10, 15)), ("quo", (-1, 0)), ("less", (1, 1)),
                ("same", (0, 0)), ("min", (-2, 3)), ("max", (5, 5))):
            self.assertEqual(reckoned_from((word, A, B), self.book), told, word)

    def test_the_wide_room(self):
        w = name("w")
        self.assertEqual(reckoned_from(("add", w, num(1)), self.book), (LEAST + 1, GREATEST))
        self.assertEqual(reckoned_from(("sub", w, num(1)), self.book), (LEAST, GREATEST - 1))
        self.assertEqual(reckoned_from(("mul", w, w), self.book), WIDE)
        self.assertEqual(reckoned_from(("sub", ("add", w, num(9)), num(9)), self.book), (LEAST, GREATEST - 9))
        self.assertIsNone(reckoned_from(("add", num(GREATEST), num(1)), {}))
        self.assertIsNone(reckoned_from(("add", num(LEAST), num(-1)), {}))
        self.assertEqual(reckoned_from(("add", num(GREATEST), num(0)), {}), (GREATEST, GREATEST))

    def test_nothing(self):
        over = ("add", num(GREATEST), num(1))
        zero = ("quo", A, num(0))
        for nothing in (over, zero):
            self.assertIsNone(reckoned_from(nothing, self.book))
            for word in WORDS:
                self.assertIsNone(reckoned_from((word, nothing, num(1)), self.book))
                self.assertIsNone(reckoned_from((word, num(1), nothing), self.book))

    def test_going_through_all_worths(self):
        source = random.Random(33)
        for turn in range(400):
            book = drawn_book(source, 4)
            term = drawn_sum(source, sorted(book), 3)
            told = reckoned_from(term, book)
            for names in all_names(book):
                comes_to = worth(term, names)
                if comes_to is not None:
                    self.assertTrue(told is not None and told[0] <= comes_to <= told[1], (term, book, names))

    def test_each_word_is_the_least(self):
        source = random.Random(34)
        for turn in range(400):
            book = drawn_book(source, 5)
            for word in WORDS:
                term = (word, A, B)
                comes_to = [worth(term, names) for names in all_names({"a": book["a"], "b": book["b"]})]
                self.assertEqual(
                    reckoned_from(term, book), hull([w for w in comes_to if w is not None]), (word, book))


def drawn_book(source, most):
    book = {}
    for n in ("a", "b", "c"):
        low = source.randrange(-4, 4)
        book[n] = (low, low + source.randrange(most))
    return book


class NameTest(unittest.TestCase):
    def test_a_name(self):
        for own, so, not_so in (
                ((0, 5), (1, 5), (0, 0)), ((-5, 0), (-5, -1), (0, 0)), ((-5, 5), (-5, 5), (0, 0)),
                ((0, 0), None, (0, 0)), ((1, 5), (1, 5), None), ((-5, -1), (-5, -1), None), ((0, 1), (1, 1), (0, 0)),
                (WIDE, WIDE, (0, 0))):
            for is_so, left in ((True, so), (False, not_so)):
                told = behind(A, {"a": own, "b": (0, 0)}, is_so)
                self.assertEqual(told, None if left is None else {"a": left, "b": (0, 0)}, (own, is_so))


class QuestionTest(unittest.TestCase):
    def told(self, term, is_so, book, *left):
        names = sorted(book)
        expected = None if left == (None,) else dict(zip(names, left))
        self.assertEqual(behind(term, book, is_so), expected, (term, is_so, book))

    def test_less_of_a_name_and_a_number(self):
        less = ("less", A, num(3))
        self.told(less, True, {"a": (0, 9)}, (0, 2))
        self.told(less, False, {"a": (0, 9)}, (3, 9))
        self.told(less, True, {"a": (0, 2)}, (0, 2))
        self.told(less, False, {"a": (0, 2)}, None)
        self.told(less, True, {"a": (3, 9)}, None)
        self.told(less, False, {"a": (3, 9)}, (3, 9))

    def test_less_of_a_number_and_a_name(self):
        less = ("less", num(3), A)
        self.told(less, True, {"a": (0, 9)}, (4, 9))
        self.told(less, False, {"a": (0, 9)}, (0, 3))
        self.told(less, True, {"a": (0, 3)}, None)
        self.told(less, False, {"a": (4, 9)}, None)

    def test_same_of_a_name_and_a_number(self):
        for same in (("same", A, num(3)), ("same", num(3), A)):
            self.told(same, True, {"a": (0, 9)}, (3, 3))
            self.told(same, True, {"a": (4, 9)}, None)
            self.told(same, False, {"a": (0, 9)}, (0, 9))
            self.told(same, False, {"a": (3, 9)}, (4, 9))
            self.told(same, False, {"a": (0, 3)}, (0, 2))
            self.told(same, False, {"a": (3, 3)}, None)
            self.told(same, False, {"a": (4, 9)}, (4, 9))

    def test_two_names(self):
        book = {"a": (0, 9), "b": (4, 6)}
        self.told(("less", A, B), True, book, (0, 5), (4, 6))
        self.told(("less", A, B), False, book, (4, 9), (4, 6))
        self.told(("less", B, A), True, book, (5, 9), (4, 6))
        self.told(("less", B, A), False, book, (0, 6), (4, 6))
        self.told(("same", A, B), True, book, (4, 6), (4, 6))
        self.told(("same", B, A), True, book, (4, 6), (4, 6))
        self.told(("same", A, B), False, book, (0, 9), (4, 6))
        self.told(("less", A, B), True, {"a": (3, 9), "b": (0, 5)}, (3, 4), (4, 5))
        self.told(("less", A, B), False, {"a": (0, 3), "b": (2, 9)}, (2, 3), (2, 3))
        self.told(("same", A, B), True, {"a": (0, 3), "b": (4, 9)}, None)
        self.told(("same", A, B), False, {"a": (3, 3), "b": (3, 9)}, (3, 3), (4, 9))
        self.told(("same", A, B), False, {"a": (3, 9), "b": (9, 9)}, (3, 8), (9, 9))
        self.told(("same", A, B), False, {"a": (3, 3), "b": (3, 3)}, None)

    def test_the_same_name_twice(self):
        self.told(("less", A, A), True, {"a": (0, 9)}, (1, 8))
        self.told(("less", A, A), True, {"a": (0, 2)}, (1, 1))
        self.told(("less", A, A), True, {"a": (0, 1)}, None)
        self.told(("less", A, A), True, {"a": (0, 0)}, None)
        self.told(("less", A, A), False, {"a": (0, 9)}, (0, 9))
        self.told(("same", A, A), True, {"a": (0, 9)}, (0, 9))
        self.told(("same", A, A), False, {"a": (0, 9)}, (0, 9))
        self.told(("same", A, A), False, {"a": (0, 1)}, (0, 1))
        self.told(("same", A, A), False, {"a": (4, 4)}, None)

    def test_sums_within(self):
        book = {"a": (0, 9), "b": (2, 4)}
        self.told(("less", A, ("add", B, num(1))), True, book, (0, 4), (2, 4))
        self.told(("less", A, ("add", B, num(1))), False, book, (3, 9), (2, 4))
        self.told(("less", ("add", B, num(1)), A), True, book, (4, 9), (2, 4))
        self.told(("same", A, ("mul", B, B)), True, book, (4, 9), (2, 4))
        self.told(("same", A, ("mul", num(3), num(3))), False, book, (0, 8), (2, 4))
        self.told(("less", ("add", A, num(0)), ("add", B, num(0))), True, book, (0, 9), (2, 4))
        self.told(("less", ("add", A, num(99)), A), True, book, None)
        self.told(("less", A, ("add", A, A)), True, {"a": (0, 9)}, (0, 9))
        self.told(("less", ("sub", A, num(4)), A), False, {"a": (0, 9)}, (0, 5))

    def test_the_wide_room(self):
        book = {"a": WIDE, "b": (0, GREATEST)}
        self.told(("less", A, ("add", B, num(1))), True, book, (LEAST, GREATEST - 1), (0, GREATEST))
        self.told(("less", A, num(LEAST)), True, book, None)
        self.told(("less", num(GREATEST), A), True, book, None)

    def test_all_else_stays(self):
        book = {"a": (0, 9), "b": (-3, 3), "c": (7, 7)}
        for term in (
                num(0), num(1), ("add", A, B), ("sub", A, A), ("mul", A, num(0)), ("min", A, B), ("max", A, B),
                ("quo", A, B), ("quo", A, num(0)), ("add", num(GREATEST), num(1)), ("less", num(1), num(0)),
                ("same", num(1), num(1)), ("less", ("add", A, num(1)), num(-9)),
                ("add", ("less", A, B), num(0)), ("same", ("less", A, B), num(1))):
            for is_so in (True, False):
                self.assertEqual(behind(term, book, is_so), book, term)
        self.assertEqual(behind(num(0), {}, True), {})

    def test_nothing_where_a_sum_asked_about_has_nothing(self):
        book = {"a": (0, 9)}
        for nothing in (("add", num(GREATEST), num(1)), ("quo", A, num(0)), ("add", A, ("quo", A, num(0)))):
            for word in ("less", "same"):
                for is_so in (True, False):
                    for term in ((word, A, nothing), (word, nothing, A), (word, nothing, num(1)), (word, num(1), nothing)):
                        self.assertIsNone(behind(term, book, is_so), term)

    def test_a_name_that_the_book_does_not_have_has_nothing(self):
        for book in ({}, {"b": (0, 1)}):
            self.assertIsNone(reckoned_from(A, book))
            self.assertIsNone(reckoned_from(("add", A, num(1)), book))
            for is_so in (True, False):
                self.assertIsNone(behind(A, book, is_so))
                self.assertIsNone(behind(("less", A, num(1)), book, is_so))
                self.assertIsNone(behind(("same", num(1), A), book, is_so))

    def test_books_are_new_and_those_handed_in_stay(self):
        terms = (num(1), A, ("add", A, B), ("less", A, B), ("same", A, num(0)), ("less", A, A), ("less", num(5), num(4)))
        for term in terms:
            for is_so in (True, False):
                book = {"b": (0, 5), "a": (0, 5)}
                told = behind(term, book, is_so)
                self.assertEqual(list(book.items()), [("b", (0, 5)), ("a", (0, 5))])
                self.assertIsNot(told, book)
                told["c"] = (1, 1)
                self.assertEqual(list(book.items()), [("b", (0, 5)), ("a", (0, 5))])
                self.assertNotEqual(behind(term, book, is_so), told)
                reckoned_from(term, book)
                self.assertEqual(list(book.items()), [("b", (0, 5)), ("a", (0, 5))])


class ThroughTest(unittest.TestCase):
    def small_books(self):
        stretches = [(low, high) for low in range(-2, 3) for high in range(low, 3)]
        return [{"a": one, "b": other} for one in stretches for other in stretches]

    def test_just_the_least_of_one_name_and_numbers_or_two_unlike_names(self):
        terms = [A]
        for word in ("less", "same"):
            terms.extend([(word, A, B), (word, B, A)])
            for n in (-3, -2, -1, 0, 1, 2, 3):
                terms.extend([(word, A, num(n)), (word, num(n), A)])
            terms.extend([(word, A, ("mul", num(2), num(-1))), (word, ("add", num(1), num(1)), A)])
        for book in self.small_books():
            for term in terms:
                for is_so in (True, False):
                    self.assertEqual(behind(term, book, is_so), least_behind(term, book, is_so), (term, book, is_so))

    def test_nothing_that_can_be_is_left_out(self):
        source = random.Random(35)
        nones = 0
        for turn in range(1500):
            book = drawn_book(source, 4)
            term = drawn_sum(source, sorted(book), 2)
            if source.randrange(3):
                term = (source.choice(("less", "same")), term, drawn_sum(source, sorted(book), 2))
            for is_so in (True, False):
                told, least = behind(term, book, is_so), least_behind(term, book, is_so)
                nones += told is None
                if least is not None:
                    self.assertIsNotNone(told, (term, book, is_so))
                    for n in least:
                        self.assertTrue(told[n][0] <= least[n][0] and least[n][1] <= told[n][1], (term, book, is_so))
                self.assertEqual(told, behind_by_worths(term, book, is_so), (term, book, is_so))
        self.assertGreater(nones, 100)

    def test_the_same_name_twice_worth_by_worth(self):
        for book in self.small_books():
            for word in ("less", "same"):
                for is_so in (True, False):
                    term = (word, A, A)
                    self.assertEqual(behind(term, book, is_so), behind_by_worths(term, book, is_so), (term, book))


if __name__ == "__main__":
    unittest.main()
