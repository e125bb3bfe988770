"""2.1, 2.2, 2.3: what programs come to, how runs are refused, and what is reckoned on the way."""

import random
import unittest

from samples import SecondWay, deep_block, deep_sum, drawn_program, drawn_worths, name, num
from smallrooms.errors import NoWorths, RoomError
from smallrooms.programs import WORDS, is_program, spots, whiles
from smallrooms.running import run, traced

LEAST, GREATEST = -32768, 32767


def setting(term):
    return ((), (("set", "x", term),))


def worth(term):
    told = run(setting(term), ())
    return told[1][0][1] if told[0] == "told" else told


def pair(word, one, other):
    return worth((word, num(one), num(other)))


class WorthsTest(unittest.TestCase):
    def test_num_and_name(self):
        for n in (LEAST, -1, 0, 1, GREATEST):
            self.assertEqual(worth(num(n)), n)
        program = ((("a", -9, 9),), (
            ("set", "b", name("a")), ("set", "a", num(7)), ("set", "c", name("a")), ("set", "a", num(8))))
        self.assertEqual(run(program, (-4,)), ("told", (("a", 8), ("b", -4), ("c", 7))))

    def test_each_word(self):
        cases = {
            "add": ((2, 3, 5), (-2, 3, 1), (-2, -3, -5), (0, 0, 0)),
            "sub": ((2, 3, -1), (3, 2, 1), (-2, -3, 1), (0, 5, -5)),
            "mul": ((2, 3, 6), (-2, 3, -6), (-2, -3, 6), (0, 9, 0)),
            "quo": ((7, 2, 3), (-7, 2, -4), (7, -2, -4), (-7, -2, 3), (0, 5, 0), (0, -5, 0), (1, 2, 0), (-1, 2, -1),
                    (6, 3, 2), (-6, 3, -2), (LEAST, 1, LEAST), (GREATEST, -1, -GREATEST), (1, LEAST, -1)),
            "less": ((1, 2, 1), (2, 2, 0), (3, 2, 0), (-3, -2, 1), (-2, -3, 0)),
            "same": ((1, 2, 0), (2, 2, 1), (2, 1, 0), (-2, 2, 0), (-2, -2, 1)),
            "min": ((1, 2, 1), (2, 1, 1), (-1, -2, -2), (3, 3, 3)),
            "max": ((1, 2, 2), (2, 1, 2), (-1, -2, -1), (3, 3, 3)),
        }
        self.assertEqual(sorted(cases), sorted(WORDS))
        for word in cases:
            for one, other, comes_to in cases[word]:
                self.assertEqual(pair(word, one, other), comes_to, (word, one, other))

    def test_worths_are_whole_numbers_and_no_truths(self):
        for word in WORDS:
            self.assertIs(type(pair(word, 3, 3)), int)
            self.assertIs(type(pair(word, 2, 3)), int)

    def test_the_ends_of_the_room_are_let_by(self):
        self.assertEqual(pair("add", GREATEST - 1, 1), GREATEST)
        self.assertEqual(pair("sub", LEAST + 1, 1), LEAST)
        self.assertEqual(pair("mul", LEAST // 2, 2), LEAST)
        self.assertEqual(pair("quo", LEAST + 1, -1), GREATEST)

    def test_over(self):
        over = ("refused", "over", (0, 0))
        for word, one, other in (
                ("add", GREATEST, 1), ("add", LEAST, -1), ("sub", LEAST, 1), ("sub", GREATEST, -1),
                ("mul", 16384, 2), ("mul", -16385, 2), ("mul", GREATEST, GREATEST), ("quo", LEAST, -1)):
            self.assertEqual(pair(word, one, other), over, (word, one, other))

    def test_over_in_a_sum_within(self):
        self.assertEqual(
            worth(("sub", ("add", num(GREATEST), num(1)), num(9))), ("refused", "over", (0, 0, 0)))
        self.assertEqual(
            worth(("less", num(0), ("add", num(GREATEST), num(1)))), ("refused", "over", (0, 0, 1)))

    def test_over_of_num_and_name_beyond_the_bounds(self):
        self.assertEqual(worth(num(GREATEST + 1)), ("refused", "over", (0, 0)))
        self.assertEqual(worth(("min", num(0), num(LEAST - 1))), ("refused", "over", (0, 0, 1)))
        program = ((("a", 0, 40000),), (("set", "b", name("a")),))
        self.assertEqual(run(program, (GREATEST,)), ("told", (("a", GREATEST), ("b", GREATEST))))
        self.assertEqual(run(program, (GREATEST + 1,)), ("refused", "over", (0, 0)))

    def test_zero(self):
        for one in (LEAST, -1, 0, 1, GREATEST):
            self.assertEqual(pair("quo", one, 0), ("refused", "zero", (0, 0)))
        self.assertEqual(
            worth(("add", num(1), ("quo", num(1), ("sub", num(2), num(2))))), ("refused", "zero", (0, 0, 1)))

    def test_the_first_refusal_is_told(self):
        zero = ("quo", num(1), num(0))
        over = ("add", num(GREATEST), num(1))
        self.assertEqual(worth(("add", zero, over)), ("refused", "zero", (0, 0, 0)))
        self.assertEqual(worth(("add", over, zero)), ("refused", "over", (0, 0, 0)))
        self.assertEqual(worth(("quo", over, num(0))), ("refused", "over", (0, 0, 0)))
        self.assertEqual(worth(("quo", over, zero)), ("refused", "over", (0, 0, 0)))
        self.assertEqual(worth(("quo", num(1), zero)), ("refused", "zero", (0, 0, 1)))

    def test_all_are_reckoned_whatever_the_word(self):
        zero = ("quo", num(1), num(0))
        for word in WORDS:
            self.assertEqual(worth((word, num(0), zero)), ("refused", "zero", (0, 0, 1)), word)


class DeedsTest(unittest.TestCase):
    def test_if(self):
        for n, comes_to in ((1, 1), (-1, 1), (2, 1), (LEAST, 1), (0, 2)):
            program = ((), (("if", num(n), (("set", "a", num(1)),), (("set", "a", num(2)),)),))
            self.assertEqual(run(program, ()), ("told", (("a", comes_to),)), n)

    def test_refusals_in_ifs(self):
        zero = ("set", "a", ("quo", num(1), num(0)))
        keep = ("set", "b", num(1))
        self.assertEqual(run(((), (("if", num(1), (keep, zero), ()),)), ()), ("refused", "zero", (0, 1, 1, 0)))
        self.assertEqual(run(((), (("if", num(0), (), (keep, zero)),)), ()), ("refused", "zero", (0, 2, 1, 0)))
        self.assertEqual(run(((), (("if", num(0), (zero,), (keep,)),)), ()), ("told", (("b", 1),)))
        self.assertEqual(run(((), (("if", num(1), (keep,), (zero,)),)), ()), ("told", (("b", 1),)))
        self.assertEqual(run(((), (keep, ("if", zero[2], (), ()))), ()), ("refused", "zero", (1, 0)))

    def test_nothing_is_done_behind_a_refusal(self):
        program = ((), (
            ("if", num(1), (("set", "a", ("quo", num(1), num(0))), ("set", "b", num(2))), ()),
            ("set", "c", ("add", num(GREATEST), num(1)))))
        self.assertEqual(run(program, ()), ("refused", "zero", (0, 1, 0, 0)))
        self.assertEqual(traced(program, ()), [((0, 0), 1), ((0, 1, 0, 0, 0), 1), ((0, 1, 0, 0, 1), 0)])

    def down(self, most):
        return ((("a", -9, 9),), (
            ("set", "n", num(0)),
            ("while", name("a"), most, (
                ("set", "a", ("sub", name("a"), num(1))), ("set", "n", ("add", name("n"), num(1)))))))

    def test_while_done_at_once(self):
        for most in (0, 1, 20):
            self.assertEqual(run(self.down(most), (0,)), ("told", (("a", 0), ("n", 0))))

    def test_while_with_rounds(self):
        for rounds in range(1, 10):
            told = ("told", (("a", 0), ("n", rounds)))
            self.assertEqual(run(self.down(rounds), (rounds,)), told)
            self.assertEqual(run(self.down(rounds + 1), (rounds,)), told)
            self.assertEqual(run(self.down(20), (rounds,)), told)
            self.assertEqual(run(self.down(rounds - 1), (rounds,)), ("refused", "long", (1,)))

    def test_while_goes_round_for_whatever_is_not_zero(self):
        program = ((("a", -9, 9),), (("while", name("a"), 9, (("set", "a", ("add", name("a"), num(1))),)),))
        self.assertEqual(run(program, (-9,)), ("told", (("a", 0),)))

    def test_long_with_most_zero(self):
        self.assertEqual(run(self.down(0), (1,)), ("refused", "long", (1,)))
        self.assertEqual(run(self.down(-1), (1,)), ("refused", "long", (1,)))
        self.assertEqual(run(self.down(-1), (0,)), ("told", (("a", 0), ("n", 0))))
        program = ((), (("while", num(1), 0, (("set", "a", ("quo", num(1), num(0))),)),))
        self.assertEqual(run(program, ()), ("refused", "long", (0,)))
        self.assertEqual(traced(program, ()), [((0, 0), 1)])

    def test_long_after_twenty_and_beyond(self):
        for most in (20, 21, 50):
            program = ((), (("set", "a", num(0)), ("while", num(1), most, (
                ("set", "a", ("add", name("a"), num(1))),))))
            self.assertEqual(run(program, ()), ("refused", "long", (1,)))
            self.assertEqual(len(traced(program, ())), 1 + (most + 1) + 3 * most)

    def test_long_within_blocks(self):
        loop = ("while", num(1), 2, ())
        self.assertEqual(run(((), (("if", num(0), (), (loop,)),)), ()), ("refused", "long", (0, 2, 0)))
        self.assertEqual(run(((), (("while", num(1), 1, (loop,)),)), ()), ("refused", "long", (0, 1, 0)))

    def test_a_while_within_counts_its_rounds_anew(self):
        program = ((), (
            ("set", "a", num(3)), ("set", "n", num(0)),
            ("while", name("a"), 3, (
                ("set", "b", num(2)),
                ("while", name("b"), 2, (
                    ("set", "b", ("sub", name("b"), num(1))), ("set", "n", ("add", name("n"), num(1))))),
                ("set", "a", ("sub", name("a"), num(1)))))))
        self.assertEqual(run(program, ()), ("told", (("a", 0), ("b", 0), ("n", 6))))

    def test_refusals_in_whiles(self):
        zero = ("quo", num(1), num(0))
        self.assertEqual(run(((), (("while", zero, 0, ()),)), ()), ("refused", "zero", (0, 0)))
        self.assertEqual(
            run(((), (("while", num(1), 1, (("set", "a", zero),)),)), ()), ("refused", "zero", (0, 1, 0, 0)))
        later = ((("a", 0, 9),), (("while", ("quo", num(6), name("a")), 9, (
            ("set", "a", ("sub", name("a"), num(1))),)),))
        self.assertEqual(run(later, (2,)), ("refused", "zero", (0, 0)))
        self.assertEqual(run(later, (7,)), ("told", (("a", 7),)))


class ToldTest(unittest.TestCase):
    program = ((("b", -2, 2), ("d", 5, 5)), (
        ("set", "z", num(1)),
        ("if", name("b"), (("set", "c", name("b")),), (("set", "a", num(9)), ("set", "aa", num(8)))),
        ("while", name("b"), 2, (("set", "b", ("sub", name("b"), num(1))), ("set", "e", num(3))))))

    def test_rows_rise_with_just_the_names_that_have_a_worth(self):
        self.assertEqual(run(self.program, (0, 5)), ("told", (("a", 9), ("aa", 8), ("b", 0), ("d", 5), ("z", 1))))
        self.assertEqual(run(self.program, (2, 5)), ("told", (("b", 0), ("c", 2), ("d", 5), ("e", 3), ("z", 1))))
        self.assertEqual(run(self.program, (-1, 5)), ("refused", "long", (2,)))

    def test_no_deeds(self):
        self.assertEqual(run(((), ()), ()), ("told", ()))
        self.assertEqual(run(((("a", -99, 99), ("b", 0, 0)), ()), (-99, 0)), ("told", (("a", -99), ("b", 0))))
        self.assertEqual(traced(((("a", -99, 99),), ()), (99,)), [])

    def test_worths_from_low_to_high(self):
        program = ((("a", -2, 2), ("b", 5, 6)), ())
        for worths in ((-2, 5), (2, 6), (0, 5)):
            self.assertEqual(run(program, worths), ("told", (("a", worths[0]), ("b", worths[1]))))
            self.assertEqual(traced(program, worths), [])

    def test_no_worths(self):
        program = ((("a", -2, 2), ("b", 5, 6)), (("set", "x", ("quo", num(1), num(0))),))
        for worths in ((), (0,), (0, 5, 0), (0, 5, 5), (-3, 5), (3, 5), (0, 4), (0, 7), (5, 0), (10 ** 30, 5)):
            for told in (run, traced):
                with self.assertRaises(NoWorths, msg=worths):
                    told(program, worths)
        for told in (run, traced):
            with self.assertRaises(NoWorths):
                told(((), ()), (0,))

    def test_no_worths_of_truths_and_other_things(self):
        program = ((("a", 0, 1),), ())
        for worths in ((True,), (False,), (None,), ("0",), ((0,),), [0], None, 0, "0"):
            for told in (run, traced):
                with self.assertRaises(NoWorths, msg=worths):
                    told(program, worths)

    def test_no_worths_is_a_room_error(self):
        with self.assertRaises(RoomError):
            run(((), ()), (1,))


class TracedTest(unittest.TestCase):
    def test_the_order_in_which_worths_are_had(self):
        program = ((("a", 0, 9),), (
            ("set", "b", ("add", ("mul", name("a"), num(2)), ("sub", num(1), name("a")))),
            ("if", ("less", name("b"), num(9)), (("set", "c", num(4)),), (("set", "c", num(5)),))))
        self.assertEqual(traced(program, (3,)), [
            ((0, 0, 0, 0), 3), ((0, 0, 0, 1), 2), ((0, 0, 0), 6),
            ((0, 0, 1, 0), 1), ((0, 0, 1, 1), 3), ((0, 0, 1), -2),
            ((0, 0), 4),
            ((1, 0, 0), 4), ((1, 0, 1), 9), ((1, 0), 1),
            ((1, 1, 0, 0), 4)])
        self.assertEqual(traced(program, (9,))[-2:], [((1, 0), 0), ((1, 2, 0, 0), 5)])

    def test_rounds(self):
        program = ((("a", 0, 9),), (("while", name("a"), 2, (("set", "a", ("sub", name("a"), num(1))),)),))
        body = (0, 1, 0, 0)
        self.assertEqual(traced(program, (2,)), [
            ((0, 0), 2), (body + (0,), 2), (body + (1,), 1), (body, 1),
            ((0, 0), 1), (body + (0,), 1), (body + (1,), 1), (body, 0),
            ((0, 0), 0)])
        self.assertEqual(traced(program, (3,))[-2:], [(body, 1), ((0, 0), 1)])

    def test_over_is_last(self):
        term = ("min", ("add", num(GREATEST), num(1)), num(0))
        self.assertEqual(traced(setting(term), ()), [
            ((0, 0, 0, 0), GREATEST), ((0, 0, 0, 1), 1), ((0, 0, 0), GREATEST + 1)])
        self.assertEqual(traced(setting(num(LEAST - 1)), ()), [((0, 0), LEAST - 1)])

    def test_none_for_zero(self):
        term = ("min", ("quo", num(5), num(0)), num(7))
        self.assertEqual(traced(setting(term), ()), [((0, 0, 0, 0), 5), ((0, 0, 0, 1), 0)])

    def test_told_lists_are_new_and_nothing_is_changed(self):
        program = ((("a", 0, 9),), (("set", "b", ("add", name("a"), num(1))),))
        worths = (4,)
        kept = repr((program, worths))
        first = traced(program, worths)
        self.assertIs(type(first), list)
        before = list(first)
        first.clear()
        self.assertEqual(traced(program, worths), before)
        self.assertEqual(run(program, worths), run(program, worths))
        self.assertEqual(repr((program, worths)), kept)


class BeyondTest(unittest.TestCase):
    def test_more_deeds_and_deeper_blocks_and_sums(self):
        deeds = tuple(("set", "a", ("add", name("a"), num(1))) for at in range(30))
        program = ((("a", -500, 500),), deep_block(9, deeds))
        self.assertEqual(run(program, (300,)), ("told", (("a", 330),)))
        self.assertEqual(len(traced(program, (300,))), 8 + 90)
        self.assertEqual(worth(deep_sum(12)), 12)

    def test_names_that_are_known_only_as_a_run_goes(self):
        program = ((), (("if", num(1), (("set", "a", num(4)),), ()), ("set", "b", name("a"))))
        self.assertFalse(is_program(program))
        self.assertEqual(run(program, ()), ("told", (("a", 4), ("b", 4))))
        self.assertEqual(traced(program, ()), [((0, 0), 1), ((0, 1, 0, 0), 4), ((1, 0), 4)])


class DrawnTest(unittest.TestCase):
    def test_drawn_programs_against_the_second_way(self):
        source = random.Random(21)
        words = {}
        for at in range(3000):
            program = drawn_program(source)
            worths = drawn_worths(source, program)
            second = SecondWay(program)
            told = second.done(worths)
            words[told[0] if told[0] == "told" else told[1]] = True
            self.assertEqual(run(program, worths), told, (program, worths))
            self.assertEqual(traced(program, worths), second.rows, (program, worths))
            self.spots_are_told(program, told, second.rows)
        self.assertEqual(sorted(words), ["long", "over", "told", "zero"])

    def spots_are_told(self, program, told, rows):
        paths = dict(spots(program))
        for path, had in rows:
            self.assertIn(path, paths)
        if told[0] == "refused":
            self.assertIn(told[2], whiles(program) if told[1] == "long" else paths)


if __name__ == "__main__":
    unittest.main()
