"""10.1: how much of what is in programs, and how deep."""

import random
import unittest

from samples import deep_block, deep_sum, drawn_beyond, name, num, second_walk
from smallrooms.measuring import deeds_in, depths, words_in
from smallrooms.programs import WORDS

A = name("a")

PROGRAM = ((("a", 0, 3),), (
    ("set", "c", ("add", A, ("mul", A, num(2)))),
    ("if", A, (("set", "d", num(1)),), (("while", A, 3, (("set", "a", ("add", A, num(-1))),)),)),
    ("set", "c", num(0)),
))


class WordsTest(unittest.TestCase):
    def test_words(self):
        self.assertEqual(words_in(PROGRAM), [("add", 2), ("mul", 1), ("name", 5), ("num", 4)])
        self.assertEqual(words_in(((), ())), [])
        self.assertEqual(words_in(((("a", 0, 1),), (("if", num(1), (), ()),))), [("num", 1)])

    def test_each_word(self):
        for word in WORDS:
            self.assertEqual(words_in(((), (("set", "x", (word, num(1), num(2))),))), sorted([(word, 1), ("num", 2)]))

    def test_told_lists_are_new(self):
        first = words_in(PROGRAM)
        self.assertIs(type(first), list)
        first.clear()
        self.assertEqual(len(words_in(PROGRAM)), 4)


class DeedsTest(unittest.TestCase):
    def test_deeds(self):
        self.assertEqual(deeds_in(PROGRAM), (4, 1, 1))
        self.assertEqual(deeds_in(((), ())), (0, 0, 0))
        self.assertEqual(deeds_in(((), (("while", num(0), 0, ()),))), (0, 0, 1))
        self.assertEqual(deeds_in(((), (("if", num(0), (), ()),) * 3)), (0, 3, 0))
        self.assertEqual(deeds_in(((), (("set", "a", num(0)),) * 9)), (9, 0, 0))
        self.assertIs(type(deeds_in(PROGRAM)), tuple)


class DepthsTest(unittest.TestCase):
    def test_a_program_without_deeds(self):
        self.assertEqual(depths(((), ())), (0, 1))
        self.assertEqual(depths(((("a", 0, 1),), ())), (0, 1))

    def test_sums(self):
        for levels in range(1, 9):
            deep = deep_sum(levels)
            self.assertEqual(depths(((), (("set", "a", deep),))), (levels, 1))
            self.assertEqual(depths(((), (("set", "a", num(1)), ("while", deep, 1, ()), ("set", "b", num(1))))), (levels, 2))
            self.assertEqual(depths(((), (("if", num(1), (), (("set", "a", deep),)),))), (levels, 2))
            self.assertEqual(depths(((), (("if", deep, (), (("set", "a", num(1)),)),))), (levels, 2))
            self.assertEqual(depths(((), (("set", "a", ("sub", deep, num(1))),))), (levels + 1, 1))
            self.assertEqual(depths(((), (("set", "a", ("sub", num(1), deep)),))), (levels + 1, 1))

    def test_blocks(self):
        self.assertEqual(depths(PROGRAM), (3, 3))
        self.assertEqual(depths(((), (("if", num(1), (), ()),))), (1, 2))
        self.assertEqual(depths(((), (("while", num(1), 1, ()),))), (1, 2))
        self.assertEqual(depths(((), (("while", num(1), 1, (("if", A, (), ()),)),))), (1, 3))
        self.assertEqual(depths(((), (("if", num(1), (), (("while", A, 1, ()),)), ("set", "a", num(1))))), (1, 3))
        for levels in range(2, 9):
            self.assertEqual(depths(((), deep_block(levels))), (1, levels))
            self.assertEqual(depths(((), (("set", "b", num(1)),) + deep_block(levels, (("set", "a", num(1)),)))), (1, levels))

    def test_deepest_block_is_empty(self):
        self.assertEqual(depths(((), (("if", num(1), (("set", "a", num(1)),), (("if", num(1), (), ()),)),))), (1, 3))


def depth_told(term):
    """How deep a sum is, told from how its tuples are written."""
    deepest = level = 0
    for sign in repr(term):
        level += {"(": 1, ")": -1}.get(sign, 0)
        deepest = max(deepest, level)
    return deepest


class DrawnTest(unittest.TestCase):
    def test_against_a_walk_over_the_whole_program(self):
        source = random.Random(121)
        for turn in range(600):
            program = drawn_beyond(source)
            kept = repr(program)
            deeds, sums = second_walk(program)
            words = [term[0] for path, term in sums]
            kinds = [deed[0] for path, deed in deeds]
            self.assertEqual(words_in(program), [(word, words.count(word)) for word in sorted(set(words))])
            self.assertEqual(deeds_in(program), (kinds.count("set"), kinds.count("if"), kinds.count("while")))
            # A deed at a path of 1, 3, 5 numbers stands in a block 1, 2, 3 deep, and has blocks one deeper.
            blocks = [len(path) // 2 + (1 if deed[0] == "set" else 2) for path, deed in deeds]
            self.assertEqual(depths(program), (
                max([depth_told(term) for path, term in sums], default=0), max(blocks, default=1)))
            self.assertEqual(repr(program), kept)


if __name__ == "__main__":
    unittest.main()
