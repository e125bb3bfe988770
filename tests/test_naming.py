"""9.1 and 0.2 (i): where names are set and used, and programs with names exchanged."""

import random
import unittest

from samples import (
    NAMES, all_worths_of, drawn_beyond, drawn_counting, drawn_program, name, num, second_walk, stepped)
from smallrooms.naming import exchanged, names_in, set_at, used_at
from smallrooms.programs import is_program
from smallrooms.running import run, traced
from smallrooms.texts import read, written

A, B, C = name("a"), name("b"), name("c")

# a comes in and is used, b comes in and is used nowhere; c is set in several blocks, d is set and never used.
PROGRAM = ((("a", 0, 3), ("b", 0, 1)), (
    ("set", "c", ("add", A, ("mul", A, num(2)))),
    ("if", C, (("set", "c", A), ("set", "d", C)), (("while", A, 3, (("set", "c", C), stepped("a", -1))),)),
    ("set", "c", num(0)),
))


def all_names_of(program):
    """Each name that stands anywhere."""
    deeds, sums = second_walk(program)
    found = {row[0] for row in program[0]} | {deed[1] for path, deed in deeds if deed[0] == "set"}
    return found | {term[1] for path, term in sums if term[0] == "name"}


class WhereTest(unittest.TestCase):
    def test_names_in(self):
        self.assertEqual(names_in(PROGRAM), ["a", "b", "c", "d"])
        self.assertEqual(names_in(((), ())), [])
        self.assertEqual(names_in(((("b", 0, 1), ("zz", 0, 1)), (("set", "a", num(1)), ("set", "b", num(1))))), ["a", "b", "zz"])
        self.assertEqual(names_in(((), (("while", num(0), 1, (("if", num(0), (), (("set", "x", num(1)),)),)),))), ["x"])

    def test_set_at(self):
        self.assertEqual(set_at(PROGRAM, "c"), [(0,), (1, 1, 0), (1, 2, 0, 1, 0), (2,)])
        self.assertEqual(set_at(PROGRAM, "d"), [(1, 1, 1)])
        self.assertEqual(set_at(PROGRAM, "a"), [(1, 2, 0, 1, 1)])
        for n in ("b", "x", "zz", "ab"):
            self.assertEqual(set_at(PROGRAM, n), [])

    def test_used_at(self):
        self.assertEqual(used_at(PROGRAM, "a"), [
            (0, 0, 0), (0, 0, 1, 0), (1, 1, 0, 0), (1, 2, 0, 0), (1, 2, 0, 1, 1, 0, 0)])
        self.assertEqual(used_at(PROGRAM, "c"), [(1, 0), (1, 1, 1, 0), (1, 2, 0, 1, 0, 0)])
        for n in ("b", "d", "x", "zz"):
            self.assertEqual(used_at(PROGRAM, n), [])

    def test_told_lists_are_new_and_nothing_is_changed(self):
        kept = repr(PROGRAM)
        for told in (names_in, lambda program: set_at(program, "c"), lambda program: used_at(program, "a")):
            first = told(PROGRAM)
            self.assertIs(type(first), list)
            before = list(first)
            first.clear()
            self.assertEqual(told(PROGRAM), before)
        exchanged(PROGRAM, "a", "c")
        self.assertEqual(repr(PROGRAM), kept)

    def test_against_a_walk_over_the_whole_program(self):
        source = random.Random(111)
        for turn in range(600):
            program = drawn_beyond(source)
            deeds, sums = second_walk(program)
            sets = [(deed[1], path) for path, deed in deeds if deed[0] == "set"]
            self.assertEqual(names_in(program), sorted({n for n, path in sets} | {row[0] for row in program[0]}))
            for n in NAMES + ("x", "az"):
                self.assertEqual(set_at(program, n), sorted(path for other, path in sets if other == n))
                self.assertEqual(used_at(program, n), sorted(path for path, term in sums if term == name(n)))


class ExchangedTest(unittest.TestCase):
    def holds(self, program, one, other):
        """Run comes to the same worths of the names exchanged, or is refused as it was; traced tells the same."""
        told = exchanged(program, one, other)
        names = {one: other, other: one}
        order = sorted(range(len(program[0])), key=lambda at: names.get(program[0][at][0], program[0][at][0]))
        for worths in all_worths_of(program):
            expected = run(program, worths)
            if expected[0] == "told":
                expected = ("told", tuple(sorted((names.get(n, n), worth) for n, worth in expected[1])))
            others = tuple(worths[at] for at in order)
            self.assertEqual(run(told, others), expected, (program, one, other, worths))
            self.assertEqual(traced(told, others), traced(program, worths))
        return told

    def test_two_that_come_in(self):
        told = self.holds(PROGRAM, "a", "b")
        self.assertEqual(told[0], (("a", 0, 1), ("b", 0, 3)))
        self.assertEqual(told[1][0], ("set", "c", ("add", B, ("mul", B, num(2)))))
        self.assertEqual(told[1][1][3], (("while", B, 3, (("set", "c", C), stepped("b", -1))),))
        three = ((("a", 1, 1), ("b", 2, 2), ("c", 3, 3)), (("set", "d", ("sub", ("sub", A, B), C)),))
        self.assertEqual(self.holds(three, "a", "c")[0], (("a", 3, 3), ("b", 2, 2), ("c", 1, 1)))

    def test_one_that_comes_in_and_one_that_does_not(self):
        told = self.holds(PROGRAM, "a", "c")
        self.assertEqual(told[0], (("b", 0, 1), ("c", 0, 3)))
        self.assertEqual(told[1], (
            ("set", "a", ("add", C, ("mul", C, num(2)))),
            ("if", A, (("set", "a", C), ("set", "d", A)), (("while", C, 3, (("set", "a", A), stepped("c", -1))),)),
            ("set", "a", num(0))))

    def test_two_that_do_not_come_in(self):
        told = self.holds(PROGRAM, "c", "d")
        self.assertEqual(told[0], PROGRAM[0])
        self.assertEqual(told[1][1][2], (("set", "d", A), ("set", "c", name("d"))))

    def test_the_same_name_twice(self):
        for n in ("a", "b", "c", "d", "x"):
            self.assertEqual(self.holds(PROGRAM, n, n), PROGRAM)

    def test_names_that_are_not_in_the_program(self):
        self.assertEqual(self.holds(PROGRAM, "x", "y"), PROGRAM)
        told = self.holds(PROGRAM, "a", "zz")
        self.assertEqual(told[0], (("b", 0, 1), ("zz", 0, 3)))
        self.assertEqual(self.holds(PROGRAM, "zz", "a"), told)
        self.assertEqual(names_in(told), ["b", "c", "d", "zz"])
        self.assertEqual(exchanged(((), ()), "a", "b"), ((), ()))

    def test_words_stay(self):
        program = ((("if", 0, 1),), (("if", name("if"), (("set", "in", name("if")),), ()),))
        told = self.holds(program, "if", "in")
        self.assertEqual(told, ((("in", 0, 1),), (("if", name("in"), (("set", "if", name("in")),), ()),)))

    def test_drawn_programs(self):
        source = random.Random(112)
        for turn in range(400):
            program = drawn_counting(source) if turn % 3 == 0 else drawn_program(source)
            one, other = source.choice(NAMES + ("x", "az")), source.choice(NAMES + ("b", "y", "az"))
            told = self.holds(program, one, other)
            self.assertIs(is_program(told), True)
            self.assertEqual(exchanged(told, one, other), program)
            self.assertEqual(exchanged(told, other, one), program)
            self.assertEqual(exchanged(program, other, one), told)
            self.assertEqual(read(written(told)), told)
            names = {one: other, other: one}
            self.assertEqual(all_names_of(told), {names.get(n, n) for n in all_names_of(program)})
            for n in all_names_of(program):
                self.assertEqual(set_at(told, names.get(n, n)), set_at(program, n))
                self.assertEqual(used_at(told, names.get(n, n)), used_at(program, n))


if __name__ == "__main__":
    unittest.main()
