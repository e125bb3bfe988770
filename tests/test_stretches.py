"""3.1, 3.2 and 0.2 (a): stretches, what they have together, and what words make of them."""

import random
import unittest

from smallrooms.programs import WORDS
from smallrooms.stretches import is_within, joined, met, stretch_of


def have(stretch):
    return [] if stretch is None else list(range(stretch[0], stretch[1] + 1))


def hull(worths):
    worths = list(worths)
    return (min(worths), max(worths)) if worths else None


def small_stretches(low, high):
    return [(one, other) for one in range(low, high + 1) for other in range(one, high + 1)]


def reckoned(word, one, other):
    """What the words come to, told apart from the package's own way."""
    return {
        "add": lambda: one + other, "sub": lambda: one - other, "mul": lambda: one * other,
        "quo": lambda: one // other, "less": lambda: int(one < other), "same": lambda: int(one == other),
        "min": lambda: sorted((one, other))[0], "max": lambda: sorted((one, other))[1]}[word]()


def gone_through(word, one, other):
    return hull(reckoned(word, left, right) for left in have(one) for right in have(other)
                if word != "quo" or right != 0)


class BothTest(unittest.TestCase):
    def test_against_going_through(self):
        stretches = small_stretches(-3, 3) + [None]
        for one in stretches:
            for other in stretches:
                both = [worth for worth in have(one) if worth in have(other)]
                self.assertEqual(joined(one, other), hull(have(one) + have(other)), (one, other))
                self.assertEqual(met(one, other), hull(both), (one, other))
                self.assertIs(is_within(one, other), both == have(one), (one, other))

    def test_joined(self):
        self.assertEqual(joined((1, 2), (5, 9)), (1, 9))
        self.assertEqual(joined((5, 9), (1, 2)), (1, 9))
        self.assertEqual(joined((1, 9), (2, 3)), (1, 9))
        self.assertEqual(joined((-70000, 0), (0, 70000)), (-70000, 70000))
        self.assertEqual(joined(None, (1, 2)), (1, 2))
        self.assertEqual(joined((1, 2), None), (1, 2))
        self.assertIsNone(joined(None, None))

    def test_met(self):
        self.assertEqual(met((1, 5), (4, 9)), (4, 5))
        self.assertEqual(met((1, 5), (5, 9)), (5, 5))
        self.assertIsNone(met((1, 5), (6, 9)))
        self.assertIsNone(met((6, 9), (1, 5)))
        self.assertEqual(met((-10 ** 30, 10 ** 30), (-1, 2)), (-1, 2))
        self.assertIsNone(met(None, (1, 2)))
        self.assertIsNone(met((1, 2), None))
        self.assertIsNone(met(None, None))

    def test_is_within(self):
        for one, other, told in (
                ((1, 2), (1, 2), True), ((1, 2), (0, 3), True), ((0, 3), (1, 2), False), ((1, 3), (1, 2), False),
                ((0, 2), (1, 2), False), ((5, 6), (1, 2), False), (None, (1, 2), True), (None, None, True),
                ((1, 2), None, False), ((0, 0), None, False)):
            self.assertIs(is_within(one, other), told, (one, other))


class WordsTest(unittest.TestCase):
    def holds(self, word, one, other):
        told = stretch_of(word, one, other)
        self.assertEqual(told, gone_through(word, one, other), (word, one, other))
        if told is not None:
            self.assertIs(type(told), tuple)
            self.assertEqual([type(end) for end in told], [int, int])

    def test_all_small_stretches_about_zero(self):
        stretches = small_stretches(-4, 4)
        for word in WORDS:
            for one in stretches:
                for other in stretches:
                    self.holds(word, one, other)

    def test_stretches_aside(self):
        one_side = small_stretches(5, 8) + small_stretches(-8, -5)
        other_side = small_stretches(9, 11) + small_stretches(-3, 2) + small_stretches(-30, -28) + [(7, 7)]
        for word in WORDS:
            for one in one_side:
                for other in other_side:
                    self.holds(word, one, other)
                    self.holds(word, other, one)

    def test_drawn_stretches(self):
        source = random.Random(31)
        for turn in range(3000):
            ends = [source.randrange(-40, 41) for end in range(4)]
            self.holds(source.choice(WORDS), tuple(sorted(ends[:2])), tuple(sorted(ends[2:])))

    def test_none_on_either_side(self):
        for word in WORDS:
            for stretch in ((1, 2), (0, 0), (-3, 3), None):
                self.assertIsNone(stretch_of(word, None, stretch), word)
                self.assertIsNone(stretch_of(word, stretch, None), word)

    def test_one_worth_alone(self):
        for word in WORDS:
            for one in (-7, -1, 0, 1, 7):
                for other in (-2, -1, 1, 2, 7):
                    worth = reckoned(word, one, other)
                    self.assertEqual(stretch_of(word, (one, one), (other, other)), (worth, worth))

    def test_quo(self):
        self.assertIsNone(stretch_of("quo", (-9, 9), (0, 0)))
        self.assertIsNone(stretch_of("quo", (0, 0), (0, 0)))
        self.assertEqual(stretch_of("quo", (7, 9), (-2, 3)), (-9, 9))
        self.assertEqual(stretch_of("quo", (7, 9), (0, 3)), (2, 9))
        self.assertEqual(stretch_of("quo", (7, 9), (-3, 0)), (-9, -3))
        self.assertEqual(stretch_of("quo", (7, 9), (2, 3)), (2, 4))
        self.assertEqual(stretch_of("quo", (7, 9), (-3, -2)), (-5, -3))
        self.assertEqual(stretch_of("quo", (-1, 1), (1000, 2000)), (-1, 0))
        self.assertEqual(stretch_of("quo", (-1, 1), (-2000, -1000)), (-1, 0))
        self.assertEqual(stretch_of("quo", (-32768, -32768), (-1, 0)), (32768, 32768))
        self.assertEqual(stretch_of("quo", (0, 0), (-5, 5)), (0, 0))

    def test_less_and_same(self):
        self.assertEqual(stretch_of("less", (1, 2), (3, 4)), (1, 1))
        self.assertEqual(stretch_of("less", (1, 3), (3, 4)), (0, 1))
        self.assertEqual(stretch_of("less", (3, 4), (1, 3)), (0, 0))
        self.assertEqual(stretch_of("same", (3, 3), (3, 3)), (1, 1))
        self.assertEqual(stretch_of("same", (3, 4), (3, 4)), (0, 1))
        self.assertEqual(stretch_of("same", (3, 4), (5, 6)), (0, 0))
        self.assertEqual(stretch_of("same", (3, 3), (3, 4)), (0, 1))

    def test_whatever_room_there_is(self):
        wide = (-32768, 32767)
        self.assertEqual(stretch_of("add", wide, wide), (-65536, 65534))
        self.assertEqual(stretch_of("sub", wide, wide), (-65535, 65535))
        self.assertEqual(stretch_of("mul", wide, wide), (-32768 * 32767, 32768 * 32768))
        self.assertEqual(stretch_of("quo", wide, wide), (-32768, 32768))
        self.assertEqual(stretch_of("min", wide, (70000, 80000)), wide)
        self.assertEqual(stretch_of("max", wide, (70000, 80000)), (70000, 80000))
        self.assertEqual(stretch_of("mul", (-10 ** 30, 1), (2, 3)), (-3 * 10 ** 30, 3))


if __name__ == "__main__":
    unittest.main()
