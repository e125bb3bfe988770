"""1.1, 1.2, 1.3: what is a program, and the paths of its sums and whiles."""

import copy
import random
import unittest

from samples import (
    NAMES, deep_block, deep_sum, drawn_block, drawn_program, drawn_thing, name, num, parts_of, with_part)
from smallrooms.programs import WORDS, is_program, spots, whiles

ALL_KINDS = (
    (("a", -3, 3), ("b", 0, 5)),
    (
        ("set", "c", ("quo", name("a"), ("max", name("b"), num(1)))),
        ("if", ("less", name("a"), name("c")),
            (("while", name("b"), 5, (("set", "b", ("sub", name("b"), num(1))),)),),
            (("set", "d", num(-32768)),)),
        ("while", ("same", name("b"), num(0)), 20, (("set", "b", num(1)),)),
    ))


class Asked(unittest.TestCase):
    def yes(self, thing):
        self.assertIs(is_program(thing), True, thing)

    def no(self, thing):
        self.assertIs(is_program(thing), False, thing)

    def sum_yes(self, term, ins=()):
        for block in self.blocks_with(term):
            self.yes((ins, block))

    def sum_no(self, term, ins=()):
        for block in self.blocks_with(term):
            self.no((ins, block))

    def blocks_with(self, term):
        return (
            (("set", "x", term),),
            (("if", term, (), ()),),
            (("while", term, 1, ()),),
            (("if", num(1), (), (("set", "x", term),)),),
        )


class InsTest(Asked):
    def rows(self, many):
        return tuple((letter, 0, 1) for letter in "abcdefg"[:many])

    def test_programs_as_they_are(self):
        self.yes(((), ()))
        self.yes(ALL_KINDS)

    def test_zero_to_four_come_in(self):
        for many in range(5):
            self.yes((self.rows(many), ()))
        self.no((self.rows(5), ()))

    def test_names(self):
        for letters in ("a", "z", "az", "zz", "aa", "if", "in"):
            self.yes((((letters, 0, 0),), ()))
            self.yes(((), (("set", letters, num(0)), ("set", "a", name(letters)))))
        for letters in ("", "abc", "A", "aB", "a1", "1", "a ", " a", "_", "a_", "-", "{", "`", "\u00e4", "\u00df",
                        "a\n", "\n", "\u0430"):
            self.no((((letters, 0, 0),), ()))
            self.no(((), (("set", letters, num(0)),)))
            self.no(((), (("set", letters, num(0)), ("set", "a", name(letters)))))

    def test_names_rise_none_twice(self):
        self.yes(((("a", 0, 0), ("aa", 0, 0), ("b", 0, 0), ("ba", 0, 0)), ()))
        self.no(((("b", 0, 0), ("a", 0, 0)), ()))
        self.no(((("a", 0, 0), ("a", 0, 0)), ()))
        self.no(((("a", 0, 0), ("a", 1, 2)), ()))
        self.no(((("b", 0, 0), ("ab", 0, 0)), ()))
        self.no(((("a", 0, 0), ("c", 0, 0), ("b", 0, 0)), ()))
        self.no(((("a", 0, 0), ("b", 0, 0), ("a", 0, 0)), ()))

    def test_numbers_that_come_in(self):
        for low, high in ((-99, -99), (-99, 99), (99, 99), (0, 0), (-1, 0), (3, 4)):
            self.yes(((("a", low, high),), ()))
        for low, high in ((-100, 0), (-100, -100), (0, 100), (100, 100), (1, 0), (99, -99), (-98, -99)):
            self.no(((("a", low, high),), ()))

    def test_rows_of_another_form(self):
        for row in (("a",), ("a", 0), ("a", 0, 0, 0), (), ["a", 0, 0], ("a", "0", 0), ("a", 0, None),
                    ("a", False, 1), ("a", 0, True), (0, 0, 0), (None, 0, 0), "abc", ("a", (0,), 0), ("a", 0, [0])):
            self.no(((row,), ()))
        self.no(([("a", 0, 0)], ()))
        self.no(("", ()))
        self.no((None, ()))

    def test_programs_of_another_form(self):
        for thing in ((), ((),), ((), (), ()), [(), ()], ((), []), ((), None), ((), ""), "", "ab", None, 0, True):
            self.no(thing)


class BlocksTest(Asked):
    def test_zero_to_six_deeds_to_a_block(self):
        deed = ("set", "a", num(0))
        for many in range(7):
            block = (deed,) * many
            self.yes(((), block))
            self.yes(((), (("if", num(0), block, ()),)))
            self.yes(((), (("if", num(0), (), block),)))
            self.yes(((), (("while", num(0), 1, block),)))
        block = (deed,) * 7
        self.no(((), block))
        self.no(((), (("if", num(0), block, ()),)))
        self.no(((), (("if", num(0), (), block),)))
        self.no(((), (("while", num(0), 1, block),)))

    def test_most(self):
        for most in (0, 1, 19, 20):
            self.yes(((), (("while", num(0), most, ()),)))
        for most in (-1, 21, 1000, True, False, None, "1", (1,), ()):
            self.no(((), (("while", num(0), most, ()),)))

    def test_blocks_are_three_deep_at_most(self):
        self.yes(((), deep_block(3)))
        self.no(((), deep_block(4)))
        for deed in (("if", num(1), (), ()), ("while", num(1), 1, ())):
            self.yes(((), deep_block(2, (deed,))))
            self.no(((), deep_block(3, (deed,))))
        loop = ("while", num(1), 1, (("while", num(1), 1, ()),))
        self.yes(((), (loop,)))
        self.no(((), (("while", num(1), 1, (loop,)),)))
        self.no(((), (("if", num(1), (), (loop,)),)))

    def test_deeds_with_too_few_or_too_many_parts(self):
        whole = (
            ("set", "a", num(0)),
            ("if", num(0), (), ()),
            ("while", num(0), 1, ()),
        )
        for deed in whole:
            self.yes(((), (deed,)))
            for many in range(len(deed)):
                self.no(((), (deed[:many],)))
            for more in (num(0), (), 0, None):
                self.no(((), (deed + (more,),)))
            self.no(((), (list(deed),)))
            self.no(((), [deed]))

    def test_deeds_with_another_word(self):
        for word in ("", "Set", "let", "add", "num", "if", "while", None, 0, True, ("set",), ["set"]):
            self.no(((), ((word, "a", num(0)),)))
        for word in ("", "If", "set", "for", "add", None, 0, True, ("if",), ["while"]):
            self.no(((), ((word, num(0), (), ()),)))
            self.no(((), ((word, num(0), 1, ()),)))
        self.no(((), (("if", num(0), 1, ()),)))
        self.no(((), (("if", num(0), (), 1),)))
        self.no(((), (("while", num(0), (), ()),)))
        self.no(((), (("while", num(0), 1, 1),)))

    def test_parts_that_are_no_sum(self):
        for part in (0, None, True, "a", (), "num", [], (("num", 0),)):
            self.sum_no(part)


class SumsTest(Asked):
    def test_num(self):
        for n in (-32768, 32767, 0, -1):
            self.sum_yes(num(n))
        for n in (-32769, 32768, 10 ** 30, -10 ** 30, True, False, None, "0", "", (0,), [0]):
            self.sum_no(num(n))

    def test_five_deep_at_most(self):
        self.sum_yes(deep_sum(5))
        self.sum_no(deep_sum(6))
        self.sum_yes(("add", deep_sum(4), deep_sum(1)))
        self.sum_no(("add", deep_sum(5), deep_sum(1)))
        self.sum_yes(("add", deep_sum(4), name("a")), (("a", 0, 0),))

    def test_the_eight_words(self):
        words = ("add", "sub", "mul", "quo", "less", "same", "min", "max")
        self.assertEqual(sorted(WORDS), sorted(words))
        for word in words:
            self.sum_yes((word, num(1), num(0)))
        for word in ("", "Add", "div", "mod", "more", "num", "name", "set", "ad", "addd", None, 0, True,
                     ("add",), ["add"]):
            self.sum_no((word, num(1), num(1)))

    def test_sums_with_too_few_or_too_many_parts(self):
        ins = (("a", 0, 0),)
        for word in WORDS:
            for term in ((word,), (word, num(1)), (word, num(1), num(1), num(1)), (word, 1, num(1)),
                         (word, num(1), 1), (word, num(1), ()), (word, 1), (word, "a"), [word, num(1), num(1)]):
                self.sum_no(term, ins)
        for term in (("num",), ("num", 1, 1), ("name",), ("name", "a", "a"), ("name", 1), ("name", None),
                     ("name", num(1)), ["num", 1], ["name", "a"], ("num", "a"), (), (1,)):
            self.sum_no(term, ins)


class KnownTest(Asked):
    def test_what_comes_in_is_known(self):
        self.sum_yes(name("a"), (("a", 0, 0),))
        self.sum_no(name("b"), (("a", 0, 0),))
        self.sum_no(name("a"))

    def test_names_in_sums_in_sums(self):
        ins = (("a", 0, 0),)
        self.sum_yes(("add", num(1), ("mul", name("a"), name("a"))), ins)
        for term in (("add", name("a"), name("b")), ("add", name("b"), name("a")),
                     ("add", num(1), ("add", ("add", num(1), name("b")), num(1)))):
            self.sum_no(term, ins)

    def test_set_ahead_and_later(self):
        sets, uses = ("set", "a", num(1)), ("set", "b", name("a"))
        self.yes(((), (sets, uses)))
        self.no(((), (uses, sets)))
        self.no(((), (("while", num(1), 1, (uses, sets)),)))

    def test_set_in_its_own_sum(self):
        deed = ("set", "a", ("add", name("a"), num(1)))
        self.no(((), (deed,)))
        self.no(((), (deed, deed)))
        self.yes(((), (("set", "a", num(1)), deed)))
        self.yes(((("a", 0, 0),), (deed,)))

    def test_if_in_one_block_and_in_both(self):
        sets, uses = ("set", "a", num(1)), ("set", "b", name("a"))
        self.no(((), (("if", num(1), (sets,), ()), uses)))
        self.no(((), (("if", num(1), (), (sets,)), uses)))
        self.yes(((), (("if", num(1), (sets,), (sets,)), uses)))
        self.no(((), (("if", num(1), (sets,), (("set", "c", num(1)),)), uses)))
        self.no(((), (("if", num(1), (sets,), (uses,)),)))
        self.yes(((), (("if", num(1), (sets, uses), (sets,)), uses)))
        self.no(((), (("if", num(1), (sets,), (sets,)), ("set", "c", name("b")))))
        self.no(((), (("if", name("a"), (sets,), (sets,)),)))

    def test_if_in_if(self):
        sets, uses = ("set", "a", num(1)), ("set", "b", name("a"))
        both, one = ("if", num(1), (sets,), (sets,)), ("if", num(1), (sets,), ())
        self.yes(((), (("if", num(1), (both,), (sets,)), uses)))
        self.yes(((), (("if", num(1), (both,), (both,)), uses)))
        self.no(((), (("if", num(1), (both,), (one,)), uses)))
        self.no(((), (("if", num(1), (one,), (both,)), uses)))

    def test_if_keeps_what_was_known(self):
        ins = (("a", 0, 0),)
        self.yes((ins, (("if", num(1), (), ()), ("set", "b", name("a")))))
        self.yes((ins, (("if", num(1), (("set", "a", num(1)),), ()), ("set", "b", name("a")))))

    def test_while(self):
        sets, uses = ("set", "a", num(1)), ("set", "b", name("a"))
        self.no(((), (("while", num(1), 1, (sets,)), uses)))
        self.no(((), (("while", num(1), 20, (("if", num(1), (sets,), (sets,)),)), uses)))
        self.yes(((), (("while", num(1), 1, (sets, uses)),)))
        self.no(((), (("while", num(1), 1, (uses,)), sets)))
        self.no(((), (("while", name("a"), 1, (sets,)),)))
        self.no(((), (("while", num(0), 0, (uses,)),)))
        self.yes(((), (sets, ("while", num(1), 1, (sets,)), uses)))
        self.no(((), (("if", num(1), (sets,), (("while", num(1), 1, (sets,)),)), uses)))

    def test_against_all_ways_through(self):
        """A name is surely known where it has a worth on every way, each while done not at all or once."""
        source = random.Random(14)
        told = []
        for at in range(3000):
            ins = tuple((in_name, 0, 1) for in_name in NAMES if source.randrange(3) == 0)
            block, known = drawn_block(source, frozenset(NAMES), 3, 4)
            ways = self.ways_behind(block, {frozenset(row[0] for row in ins)})
            told.append(ways is not None)
            self.assertIs(is_program((ins, block)), told[-1], (ins, block))
        self.assertGreater(told.count(True), 300)
        self.assertGreater(told.count(False), 300)

    def ways_behind(self, block, ways):
        for deed in block:
            term = deed[2] if deed[0] == "set" else deed[1]
            used = {part[1] for path, part in parts_of(term) if isinstance(part, tuple) and part[0] == "name"}
            if not all(used <= way for way in ways):
                return None
            if deed[0] == "set":
                ways = {way | {deed[1]} for way in ways}
                continue
            ends = [self.ways_behind(deed[3], ways)]
            ends.append(self.ways_behind(deed[2], ways) if deed[0] == "if" else ways)
            if None in ends:
                return None
            ways = ends[0] | ends[1]
        return ways

    def test_a_block_around(self):
        sets, uses = ("set", "a", num(1)), ("set", "b", name("a"))
        inner = ("if", num(1), (("while", num(1), 1, (uses,)),), (uses,))
        self.yes(((), (sets, inner)))
        self.no(((), (inner, sets)))
        self.yes(((), (("if", num(1), (sets, ("while", num(1), 1, (uses,))), ()),)))
        self.no(((), (("if", num(1), (sets,), (("while", num(1), 1, (uses,)),)),)))


class AnyThingTest(unittest.TestCase):
    odd = (
        0, 1, -1, 10 ** 30, True, False, None, "", "a", "zz", "abc", "num", "set", "\u00e4", "\n",
        (), [], ((),), [[]], ("num", 0), ["num", 0], ("name", "a"), ("num", True), (None,), [None], (((((((((("a",),),),),),),),),),),
        [[[[[[[[[[1]]]]]]]]]])

    def test_odd_things_are_no_programs(self):
        for thing in self.odd:
            self.assertIs(is_program(thing), False, thing)
            for other in self.odd:
                self.assertIs(is_program([thing, other]), False)
                told = is_program((thing, other))
                self.assertIs(told, thing == () and isinstance(thing, tuple) and other == (), (thing, other))

    def test_each_part_exchanged_for_odd_things(self):
        for path, part in parts_of(ALL_KINDS):
            for thing in self.odd:
                made = with_part(ALL_KINDS, path, thing)
                self.assertIn(is_program(made), (True, False))
                self.assertIs(type(is_program(made)), bool)

    def test_each_tuple_as_a_list_is_none(self):
        for path, part in parts_of(ALL_KINDS):
            if isinstance(part, tuple):
                self.assertIs(is_program(with_part(ALL_KINDS, path, list(part))), False, path)

    def test_each_number_as_a_truth_is_none(self):
        for path, part in parts_of(ALL_KINDS):
            if isinstance(part, int):
                for truth in (True, False):
                    self.assertIs(is_program(with_part(ALL_KINDS, path, truth)), False, path)

    def test_drawn_things(self):
        source = random.Random(11)
        for at in range(4000):
            thing = drawn_thing(source, 1 + at % 10)
            kept = copy.deepcopy(thing)
            self.assertIs(type(is_program(thing)), bool)
            self.assertEqual(repr(thing), repr(kept))

    def test_drawn_programs(self):
        source = random.Random(12)
        for at in range(500):
            program = drawn_program(source)
            self.assertIs(is_program(program), True, program)


class PathsTest(unittest.TestCase):
    def test_no_deeds(self):
        self.assertEqual(spots(((), ())), [])
        self.assertEqual(whiles(((), ())), [])
        self.assertEqual(spots(((("a", 0, 1),), (("if", num(3), (), ()),))), [((0, 0), num(3))])

    def test_sums_in_sums(self):
        inner = ("sub", num(2), num(3))
        outer = ("add", num(1), inner)
        self.assertEqual(spots(((), (("set", "a", outer),))), [
            ((0, 0), outer), ((0, 0, 0), num(1)), ((0, 0, 1), inner),
            ((0, 0, 1, 0), num(2)), ((0, 0, 1, 1), num(3))])

    def test_all_kinds(self):
        quo, less, same = ALL_KINDS[1][0][2], ALL_KINDS[1][1][1], ALL_KINDS[1][2][1]
        self.assertEqual(spots(ALL_KINDS), [
            ((0, 0), quo),
            ((0, 0, 0), name("a")),
            ((0, 0, 1), ("max", name("b"), num(1))),
            ((0, 0, 1, 0), name("b")),
            ((0, 0, 1, 1), num(1)),
            ((1, 0), less),
            ((1, 0, 0), name("a")),
            ((1, 0, 1), name("c")),
            ((1, 1, 0, 0), name("b")),
            ((1, 1, 0, 1, 0, 0), ("sub", name("b"), num(1))),
            ((1, 1, 0, 1, 0, 0, 0), name("b")),
            ((1, 1, 0, 1, 0, 0, 1), num(1)),
            ((1, 2, 0, 0), num(-32768)),
            ((2, 0), same),
            ((2, 0, 0), name("b")),
            ((2, 0, 1), num(0)),
            ((2, 1, 0, 0), num(1)),
        ])
        self.assertEqual(whiles(ALL_KINDS), [(1, 1, 0), (2,)])

    def test_whiles_within_one_another(self):
        loop = ("while", num(1), 2, ())
        program = ((), (
            ("while", num(0), 1, (loop, ("if", num(0), (loop,), (loop, loop)))),
            ("if", num(0), (loop,), (("set", "a", num(1)), loop)),
            loop))
        self.assertEqual(whiles(program), [
            (0,), (0, 1, 0), (0, 1, 1, 1, 0), (0, 1, 1, 2, 0), (0, 1, 1, 2, 1), (1, 1, 0), (1, 2, 1), (2,)])

    def test_rising_beyond_the_bounds(self):
        loop = ("while", ("add", num(1), num(2)), 2, (("set", "a", num(1)),))
        block = (loop,) * 12
        for level in range(4):
            block = (("if", num(level), block, ()), loop) + (("set", "b", deep_sum(7)),) * 10
        program = ((), block)
        self.rises(spots(program))
        self.rises(whiles(program))
        self.assertEqual(whiles(((), (loop,) * 12)), [(at,) for at in range(12)])
        self.assertEqual(whiles(program)[-1], (1,))
        self.assertIn((0, 1, 0, 1, 0, 1, 0, 1, 11), whiles(program))
        self.assertIn(((11, 0, 1, 1, 1, 1, 1, 1), num(1)), spots(program))

    def test_drawn_programs_rise_and_tell_each_sum(self):
        source = random.Random(13)
        for at in range(300):
            program = drawn_program(source)
            self.rises(spots(program))
            self.rises(whiles(program))
            sums = [part for path, part in parts_of(program[1])
                    if isinstance(part, tuple) and part and part[0] in WORDS + ("num", "name")]
            self.assertEqual(sorted(map(repr, sums)), sorted(repr(term) for path, term in spots(program)))

    def rises(self, rows):
        self.assertEqual(rows, sorted(set(rows)))

    def test_told_lists_are_new_and_nothing_is_changed(self):
        kept = repr(ALL_KINDS)
        for told in (spots, whiles):
            first = told(ALL_KINDS)
            self.assertIs(type(first), list)
            before = list(first)
            first.reverse()
            first.append("more")
            self.assertEqual(told(ALL_KINDS), before)
        self.assertEqual(repr(ALL_KINDS), kept)

    def test_paths_hold_whole_numbers_alone(self):
        for path in [row[0] for row in spots(ALL_KINDS)] + whiles(ALL_KINDS):
            self.assertIs(type(path), tuple)
            self.assertEqual({type(part) for part in path}, {int})


if __name__ == "__main__":
    unittest.main()
