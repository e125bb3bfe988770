"""8.4: whiles with a round taken out."""

import random
import unittest

from samples import all_worths_of, come_to_the_same, drawn_counting, drawn_program, name, num, stepped
from smallrooms.measuring import depths
from smallrooms.papers import is_paper, paper_for
from smallrooms.peeling import peeled
from smallrooms.programs import is_program, spots, whiles
from smallrooms.running import run, traced

A, B = name("a"), name("b")
DOWN = (stepped("a", -1), ("set", "b", A))
INS = (("a", -1, 4),)


def loop(most, block=DOWN, asked=A):
    return ("while", asked, most, block)


def rest(most, block=DOWN, asked=A):
    """What stands in the stead of a while with so many rounds."""
    return ("if", asked, block + (loop(most - 1, block, asked),), ())


def reckoned(program, worths):
    """All that is reckoned, in its order, as sums and worths: paths are others in a peeled program."""
    terms = dict(spots(program))
    return [(terms[path], worth) for path, worth in traced(program, worths)]


class PeeledTest(unittest.TestCase):
    def holds(self, program, path):
        """The peeled program comes to the same, and reckons the same worths in the same order."""
        told = peeled(program, path)
        for worths in all_worths_of(program):
            self.assertTrue(come_to_the_same(run(program, worths), run(told, worths)), (program, path, worths))
            self.assertEqual(reckoned(program, worths), reckoned(told, worths), (program, path, worths))
        return told

    def test_at_the_top(self):
        for most in (1, 2, 5, 20):
            self.assertEqual(self.holds((INS, (loop(most),)), (0,)), (INS, (rest(most),)))
        keep = ("set", "c", A)
        self.assertEqual(self.holds((INS, (keep, loop(3), keep)), (1,)), (INS, (keep, rest(3), keep)))
        self.assertEqual(self.holds((INS, (loop(3), loop(2))), (1,)), (INS, (loop(3), rest(2))))

    def test_an_empty_block(self):
        self.assertEqual(self.holds((INS, (loop(3, ()),)), (0,)), (INS, (rest(3, ()),)))
        self.assertEqual(rest(1, ()), ("if", A, (("while", A, 0, ()),), ()))

    def test_within_ifs(self):
        asked = ("less", A, num(2))
        keep = ("set", "c", A)
        program = (INS, (("if", asked, (keep, loop(3)), (loop(2), keep)),))
        self.assertEqual(self.holds(program, (0, 1, 1)), (INS, (("if", asked, (keep, rest(3)), (loop(2), keep)),)))
        self.assertEqual(self.holds(program, (0, 2, 0)), (INS, (("if", asked, (keep, loop(3)), (rest(2), keep)),)))

    def test_within_whiles(self):
        inner = loop(2, (stepped("b", -1),), B)
        other = rest(2, (stepped("b", -1),), B)
        outer = (("set", "b", num(1)), inner, stepped("a", -1))
        program = (INS, (("set", "b", num(1)), loop(6, outer)))
        self.assertEqual(self.holds(program, (1, 1, 1)), (INS, (("set", "b", num(1)), loop(
            6, (("set", "b", num(1)), other, stepped("a", -1))))))
        self.assertEqual(self.holds(program, (1,)), (INS, (("set", "b", num(1)), rest(6, outer))))

    def test_within_a_while_in_an_if(self):
        program = (INS, (("if", num(0), (), (loop(2, (loop(3), stepped("a", -1))),)),))
        self.assertEqual(self.holds(program, (0, 2, 0, 1, 0)), (
            INS, (("if", num(0), (), (loop(2, (rest(3), stepped("a", -1))),)),)))

    def test_no_rounds(self):
        for most in (0, -1):
            program = (INS, (loop(most),))
            self.assertIs(peeled(program, (0,)), program)

    def test_no_such_while(self):
        program = (INS, (("set", "b", A), loop(3), ("if", A, (loop(2),), (("set", "c", B),))))
        for path in ((), (0,), (2,), (2, 2, 0), (0, 0), (1, 0), (1, 1), (1, 1, 0), (1, 1, 0, 0), (1, 1, 0, 0, 0), (2, 0),
                     (2, 1), (2, 1, 0, 0), (2, 1, 1), (2, 2), (2, 3, 0), (3,), (99,), (-1,), (-2,), (1, 2), (2, 1, 0, 1)):
            self.assertIs(peeled(program, path), program, path)
        self.assertEqual(whiles(program), [(1,), (2, 1, 0)])
        self.assertEqual(peeled(((), ()), (0,)), ((), ()))

    def test_refused_as_it_was(self):
        for most in (1, 2, 3):
            for program in ((INS, (loop(most),)), (INS, (loop(most, (), num(1)),)),
                            (INS, (loop(most, (("set", "b", ("quo", num(1), ("sub", A, num(2)))), stepped("a", 1))),)),
                            (INS, (loop(most, (("set", "a", ("mul", A, num(300))),)),))):
                self.holds(program, (0,))
        self.assertEqual(run(peeled((INS, (loop(2, (), num(1)),)), (0,)), (0,)), ("refused", "long", (0, 1, 0)))
        self.assertEqual(run(peeled((INS, (loop(1, ()),)), (0,)), (4,)), ("refused", "long", (0, 1, 0)))

    def test_peeled_again(self):
        program = (INS, (("if", num(1), (loop(20),), ()),))
        told, path = program, (0, 1, 0)
        for most in range(20, 0, -1):
            told = peeled(told, path)
            path = path + (1, 2)
            self.assertEqual(whiles(told), [path])
            self.assertEqual(depths(told), (2, 2 + 1 + 21 - most))
            for worths in all_worths_of(program):
                self.assertTrue(come_to_the_same(run(program, worths), run(told, worths)))
                self.assertEqual(reckoned(program, worths), reckoned(told, worths))
        self.assertFalse(is_program(told))
        self.assertIs(peeled(told, path), told)
        self.assertTrue(is_paper(told, paper_for(told)))

    def test_more_deeds_than_a_block_has(self):
        six = (stepped("a", -1),) * 6
        told = self.holds((INS, (loop(3, six),)), (0,))
        self.assertFalse(is_program(told))
        self.assertEqual(len(told[1][0][2]), 7)

    def test_nothing_is_changed(self):
        program = (INS, (loop(3),))
        kept = repr(program)
        self.assertEqual(peeled(program, (0,)), peeled(program, (0,)))
        self.assertEqual(repr(program), kept)

    def test_drawn_programs(self):
        source = random.Random(101)
        many = 0
        for turn in range(300):
            program = drawn_counting(source) if turn % 3 else drawn_program(source)
            for path in whiles(program):
                told = self.holds(program, path)
                many += told != program
                again = source.choice(whiles(told))
                self.holds(told, again)
            for path, term in spots(program):
                self.assertIs(peeled(program, path), program)
        self.assertGreater(many, 200)


if __name__ == "__main__":
    unittest.main()
