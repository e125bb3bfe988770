"""11.1, 12.1, 0.2 (h) and (j): traces through runs, forth and back, and their texts."""

import random
import unittest

from samples import (
    GREATEST, all_worths_of, deep_block, deep_things, drawn_counting, drawn_program, drawn_thing, drawn_worths, name,
    num, stepped)
from smallrooms.errors import NoStep, NoText, NoWorths, RoomError
from smallrooms.peeling import peeled
from smallrooms.programs import is_program, spots
from smallrooms.running import run, traced
from smallrooms.texts import written
from smallrooms.traces import Trace, read_trace, trace_text

A = name("a")

# For a 2 the sum of the while is reckoned three times, that of its block twice.
DOWN = ((("a", -3, 9),), (("set", "b", num(7)), ("while", A, 3, (stepped("a", -1),)), ("if", A, (("set", "c", A),), ())))
DOWN_ROWS = [
    ((0, 0), 7), ((1, 0), 2), ((1, 1, 0, 0, 0), 2), ((1, 1, 0, 0, 1), -1), ((1, 1, 0, 0), 1),
    ((1, 0), 1), ((1, 1, 0, 0, 0), 1), ((1, 1, 0, 0, 1), -1), ((1, 1, 0, 0), 0), ((1, 0), 0), ((2, 0), 0)]
DOWN_TEXT = "in a -3 9\nset b 7\nwhile 3 a\nset a add a -1\nend\nif a\nset c a\nelse\nend\n--\n"

TWO = ((("a", -9, 9), ("b", 0, 9)), (("set", "c", ("quo", A, name("b"))),))
TWO_TEXT = "in a -9 9\nin b 0 9\nset c quo a b\n--\n"


def drawn(source, turn):
    return drawn_counting(source) if turn % 2 else drawn_program(source)


def state_of(trace):
    return (trace.passed(), trace.tally(), trace.unseen(), trace.outcome(), trace.ground())


class Steps(unittest.TestCase):
    def no_step(self, trace, step):
        """What is refused with NoStep changes nothing."""
        before = state_of(trace)
        with self.assertRaises(NoStep):
            step()
        self.assertEqual(state_of(trace), before)

    def is_at(self, trace, rows, many):
        """All that a trace tells, where so many of these rows are passed."""
        passed = rows[:many]
        paths = [path for path, worth in passed]
        program = trace.ground()[0]
        self.assertEqual(trace.passed(), (many, len(rows) - many))
        self.assertEqual(trace.tally(), sorted((path, paths.count(path)) for path in set(paths)))
        self.assertEqual(trace.unseen(), [path for path, term in spots(program) if path not in paths])
        for path in [path for path, term in spots(program)] + [(), (99,)]:
            had = [worth for other, worth in passed if other == path]
            self.assertEqual(trace.last(path), had[-1] if had else None)


class TraceTest(Steps):
    def test_no_worths(self):
        for worths in ((), (1, 2), (10,), (-4,), (True,), (None,), ("1",), ((1,),), [1], None):
            with self.assertRaises(NoWorths):
                Trace(DOWN, worths)
        with self.assertRaises(NoWorths):
            Trace(((), ()), (1,))
        with self.assertRaises(RoomError):
            Trace(DOWN, ())

    def test_none_is_passed_at_first(self):
        trace = Trace(DOWN, (2,))
        self.is_at(trace, DOWN_ROWS, 0)
        self.assertEqual(trace.passed(), (0, 11))
        self.assertEqual(trace.tally(), [])
        self.assertEqual(trace.unseen(), [path for path, term in spots(DOWN)])

    def test_go_to_the_end(self):
        trace = Trace(DOWN, (2,))
        for many, row in enumerate(DOWN_ROWS, 1):
            self.assertEqual(trace.go(), row)
            self.is_at(trace, DOWN_ROWS, many)
        self.no_step(trace, trace.go)
        self.no_step(trace, trace.go)
        self.is_at(trace, DOWN_ROWS, 11)
        self.assertEqual(trace.unseen(), [(2, 1, 0, 0)])
        self.assertEqual(trace.tally(), [
            ((0, 0), 1), ((1, 0), 3), ((1, 1, 0, 0), 2), ((1, 1, 0, 0, 0), 2), ((1, 1, 0, 0, 1), 2), ((2, 0), 1)])

    def test_back_to_the_beginning(self):
        trace = Trace(DOWN, (2,))
        self.no_step(trace, trace.back)
        for row in DOWN_ROWS:
            trace.go()
        for many in range(10, -1, -1):
            self.assertEqual(trace.back(), DOWN_ROWS[many])
            self.is_at(trace, DOWN_ROWS, many)
        self.no_step(trace, trace.back)
        self.assertEqual(trace.go(), DOWN_ROWS[0])

    def test_to(self):
        trace = Trace(DOWN, (2,))
        for worth, many in ((2, 2), (1, 6), (0, 10)):
            self.assertEqual(trace.to((1, 0)), worth)
            self.is_at(trace, DOWN_ROWS, many)
        self.no_step(trace, lambda: trace.to((1, 0)))
        self.assertEqual(trace.to((2, 0)), 0)
        self.assertEqual(trace.passed(), (11, 0))
        self.no_step(trace, lambda: trace.to((2, 0)))
        trace.back()
        self.assertEqual(trace.to((2, 0)), 0)

    def test_to_the_very_next(self):
        trace = Trace(DOWN, (2,))
        self.assertEqual(trace.to((0, 0)), 7)
        self.assertEqual(trace.passed(), (1, 10))
        self.no_step(trace, lambda: trace.to((0, 0)))

    def test_to_what_does_not_come(self):
        trace = Trace(DOWN, (2,))
        trace.go()
        for path in ((0, 0), (2, 1, 0, 0), (), (0,), (1,), (1, 1), (1, 1, 0), (9, 9), (-1,), (2, 0, 0)):
            self.no_step(trace, lambda: trace.to(path))
        self.is_at(trace, DOWN_ROWS, 1)

    def test_last(self):
        trace = Trace(DOWN, (2,))
        self.assertIsNone(trace.last((1, 0)))
        for worth in (2, 1, 0):
            trace.to((1, 0))
            self.assertEqual(trace.last((1, 0)), worth)
        trace.back()
        self.assertEqual(trace.last((1, 0)), 1)
        for path in ((2, 0), (2, 1, 0, 0), (), (1,), (99, 0)):
            self.assertIsNone(trace.last(path))

    def test_no_rows(self):
        trace = Trace(((), ()), ())
        self.is_at(trace, [], 0)
        for step in (trace.go, trace.back, lambda: trace.to(())):
            self.no_step(trace, step)
        self.assertEqual(trace.outcome(), ("told", ()))
        self.assertEqual(trace.ground(), (((), ()), ()))

    def test_outcome(self):
        for worths, told in (((2,), ("told", (("a", 0), ("b", 7)))), ((4,), ("refused", "long", (1,)))):
            trace = Trace(DOWN, worths)
            self.assertEqual(trace.outcome(), told)
            trace.go()
            self.assertEqual(trace.outcome(), told)
        self.assertEqual(Trace(TWO, (5, 0)).outcome(), ("refused", "zero", (0, 0)))
        self.assertEqual(Trace(TWO, (5, 2)).outcome(), ("told", (("a", 5), ("b", 2), ("c", 2))))

    def test_a_run_that_is_refused(self):
        trace = Trace(TWO, (5, 0))
        self.assertEqual([trace.go(), trace.go()], [((0, 0, 0), 5), ((0, 0, 1), 0)])
        self.no_step(trace, trace.go)
        self.assertEqual(trace.unseen(), [(0, 0)])
        over = Trace(((), (("set", "a", ("add", num(GREATEST), num(1))),)), ())
        self.assertEqual(over.to((0, 0)), GREATEST + 1)
        self.assertEqual(over.passed(), (3, 0))
        self.assertEqual(over.outcome(), ("refused", "over", (0, 0)))

    def test_ground(self):
        trace = Trace(DOWN, (2,))
        trace.go()
        self.assertEqual(trace.ground(), (DOWN, (2,)))
        self.assertIs(type(trace.ground()), tuple)

    def test_twin(self):
        trace = Trace(DOWN, (2,))
        for times in range(4):
            trace.go()
        twin = trace.twin()
        self.assertIsInstance(twin, Trace)
        self.assertIsNot(twin, trace)
        self.assertEqual(state_of(twin), state_of(trace))
        trace.go()
        trace.go()
        self.is_at(trace, DOWN_ROWS, 6)
        self.is_at(twin, DOWN_ROWS, 4)
        self.assertEqual(twin.back(), DOWN_ROWS[3])
        self.is_at(trace, DOWN_ROWS, 6)
        self.is_at(twin, DOWN_ROWS, 3)
        again = twin.twin()
        again.to((2, 0))
        self.is_at(again, DOWN_ROWS, 11)
        self.is_at(twin, DOWN_ROWS, 3)

    def test_told_lists_are_new(self):
        trace = Trace(DOWN, (2,))
        trace.to((1, 1, 0, 0))
        for told in (trace.tally, trace.unseen):
            first = told()
            self.assertIs(type(first), list)
            before = list(first)
            first.clear()
            first.append(((0, 0), 99))
            self.assertEqual(told(), before)
        self.is_at(trace, DOWN_ROWS, 5)

    def test_nothing_handed_in_is_changed(self):
        worths = (2,)
        kept = repr((DOWN, worths))
        trace = Trace(DOWN, worths)
        trace.to((2, 0))
        trace.back()
        trace.twin().go()
        self.assertEqual(repr((DOWN, worths)), kept)

    def test_traces_of_programs_beyond_the_bounds(self):
        program = ((("a", -3, 9),), (("while", A, 20, (stepped("a", -1),)),))
        deep, path = program, (0,)
        for times in range(12):
            deep, path = peeled(deep, path), path + (1, 1)
        self.assertFalse(is_program(deep))
        for n in (-3, 0, 9):
            trace = Trace(deep, (n,))
            self.is_at(trace, traced(deep, (n,)), 0)
            self.assertEqual(sum(trace.passed()), len(traced(program, (n,))))

    def test_drawn_steps(self):
        source = random.Random(131)
        for turn in range(300):
            program = drawn(source, turn)
            worths = drawn_worths(source, program)
            rows = traced(program, worths)
            trace, many = Trace(program, worths), 0
            paths = [path for path, term in spots(program)] + [(), (0,), (99, 0)]
            for times in range(12):
                draw = source.randrange(6)
                if draw < 3 and many < len(rows):
                    self.assertEqual(trace.go(), rows[many])
                    many += 1
                elif draw == 3 and many > 0:
                    many -= 1
                    self.assertEqual(trace.back(), rows[many])
                elif draw == 4:
                    trace = trace.twin()
                elif draw == 5:
                    path = source.choice(paths)
                    coming = [at for at in range(many, len(rows)) if rows[at][0] == path]
                    if coming:
                        many = coming[0] + 1
                        self.assertEqual(trace.to(path), rows[coming[0]][1])
                    else:
                        self.no_step(trace, lambda: trace.to(path))
                if len(rows) < 200:
                    self.is_at(trace, rows, many)
            self.assertEqual(trace.outcome(), run(program, worths))

    def test_forth_and_back_the_same_way(self):
        source = random.Random(132)
        for turn in range(200):
            program = drawn(source, turn)
            for worths in all_worths_of(program)[:20]:
                rows = traced(program, worths)
                trace = Trace(program, worths)
                self.assertEqual([trace.go() for row in rows], rows)
                self.no_step(trace, trace.go)
                self.assertEqual([trace.back() for row in rows], rows[::-1])
                self.no_step(trace, trace.back)


def down_and_up(n, block):
    return (("while", name(n), 20, block + (stepped(n, -1),)),
            ("while", ("less", name(n), num(20)), 20, block + (stepped(n, 1),)))


def many_rows():
    """A program that reckons over a million sums."""
    term = num(0)
    for level in range(4):
        term = ("min", term, term)
    inner = down_and_up("c", (("set", "b", term),) * 5) * 2
    return ((("a", 20, 20), ("c", 20, 20)), down_and_up("a", inner) * 3)


class TextsTest(Steps):
    def both(self, trace, text):
        self.assertEqual(trace_text(trace), text)
        told = read_trace(text)
        self.assertIsInstance(told, Trace)
        self.assertEqual(state_of(told), state_of(trace))
        self.assertEqual(trace_text(told), text)

    def test_beginning_midst_and_end(self):
        trace = Trace(DOWN, (2,))
        self.both(trace, DOWN_TEXT + "2 : 0\n")
        for many in range(1, 12):
            trace.go()
            self.both(trace, DOWN_TEXT + f"2 : {many}\n")
        trace.back()
        self.both(trace, DOWN_TEXT + "2 : 10\n")

    def test_nothing_comes_in(self):
        self.both(Trace(((), ()), ()), "--\n: 0\n")
        trace = Trace(((), (("set", "a", num(-5)),)), ())
        self.both(trace, "set a -5\n--\n: 0\n")
        trace.go()
        self.both(trace, "set a -5\n--\n: 1\n")

    def test_worths(self):
        for worths in ((-9, 0), (-1, 1), (0, 9), (9, 5)):
            trace = Trace(TWO, worths)
            trace.go()
            self.both(trace, TWO_TEXT + f"{worths[0]} {worths[1]} : 1\n")

    def test_what_is_read_goes_by_itself(self):
        trace = Trace(DOWN, (2,))
        trace.to((1, 0))
        told = read_trace(trace_text(trace))
        self.assertEqual(told.go(), DOWN_ROWS[2])
        self.is_at(trace, DOWN_ROWS, 2)
        trace.back()
        self.is_at(told, DOWN_ROWS, 3)
        self.is_at(trace, DOWN_ROWS, 1)

    def test_trace_text_changes_nothing(self):
        trace = Trace(DOWN, (2,))
        trace.to((1, 0))
        trace_text(trace)
        self.is_at(trace, DOWN_ROWS, 2)

    def refused(self, thing):
        with self.assertRaises(NoText, msg=repr(thing)):
            read_trace(thing)

    def test_no_text_is_a_room_error(self):
        with self.assertRaises(RoomError):
            read_trace(None)

    def test_the_line_between(self):
        line = DOWN_TEXT[:-3]
        for text in (line + "2 : 0\n", DOWN_TEXT + "--\n2 : 0\n", line + "-\n2 : 0\n", line + "---\n2 : 0\n",
                     line + " --\n2 : 0\n", line + "-- \n2 : 0\n", line + "--2 : 0\n", line + "-- 2 : 0\n",
                     line + "\n--\n2 : 0\n", DOWN_TEXT + "\n2 : 0\n", line[:-1] + "--\n2 : 0\n", "--\n" + line + "2 : 0\n",
                     line + "2 : 0\n--\n", DOWN_TEXT + "2 : 0\n--\n", "--\n--\n: 0\n", "--\n" + DOWN_TEXT + "2 : 0\n"):
            self.refused(text)

    def test_lines(self):
        for text in ("", "\n", "--", "--\n", "--\n\n", "--\n: 0", "--\n: 0\n\n", "--\n: 0\n: 0\n", "--\n: 0\nset a 1\n",
                     "--\n\n: 0\n", "\n--\n: 0\n", ": 0\n", ": 0", ": 0\n--\n", DOWN_TEXT, DOWN_TEXT + "\n",
                     DOWN_TEXT + "2 : 0", DOWN_TEXT + "2 : 0\n\n", DOWN_TEXT + "2 : 0\n2 : 0\n", DOWN_TEXT + "2 : 0\n ",
                     DOWN_TEXT + "2 : 0\nend\n", DOWN_TEXT + "2\n: 0\n", DOWN_TEXT + "2 :\n0\n", DOWN_TEXT + "2 : 0x",
                     written(DOWN), written(DOWN) + "2 : 0\n"):
            self.refused(text)

    def test_blanks(self):
        for line in (" 2 : 0", "2 : 0 ", "2  : 0", "2 :  0", "2: 0", "2 :0", "2:0", "2 0", "2 0 :", ": 2 0", ":2 0", "",
                     " ", "2", ":", "2 :", ": 0", " : 0", "2 : : 0", "2 : 0 :", "2 ; 0", "2 : 0 0", "2\t: 0", "2 :\t0"):
            self.refused(DOWN_TEXT + line + "\n")
        for line in (" : 0", ":  0", ":0", ": ", ":", "0", " 0", ": 0 ", "0 :", ": : 0"):
            self.refused("--\n" + line + "\n")

    def test_numbers(self):
        for word in ("+2", "-0", "02", "002", "2.0", "2_0", "0x2", "-", "+", "a", "--2", "2-", "1000000", "-1000000",
                     "0000002", "9" * 5000, "\u0662", "\u00b2", ""):
            self.refused(DOWN_TEXT + f"{word} : 0\n")
            self.refused(DOWN_TEXT + f"2 : {word}\n")
        for word in ("+0", "-0", "00", "000000", "0000000", "01", "-1", "12", "999999", "1000000", "9" * 5000):
            self.refused(DOWN_TEXT + f"2 : {word}\n")

    def test_worths_that_can_not_come_in(self):
        for line in ("10 : 0", "-4 : 0", "999999 : 0", "-999999 : 0", "2 2 : 0", ": 0", "2 3 4 : 0"):
            self.refused(DOWN_TEXT + line + "\n")
        for line in ("5 : 0", ": 0", "5 5 5 : 0", "10 0 : 0", "5 -1 : 0", "5 10 : 0"):
            self.refused(TWO_TEXT + line + "\n")
        self.refused("--\n0 : 0\n")

    def test_more_rows_passed_than_there_are(self):
        read_trace(DOWN_TEXT + "2 : 11\n")
        for many in (12, 13, 100, 999999, -1, -11):
            self.refused(DOWN_TEXT + f"2 : {many}\n")
        read_trace(TWO_TEXT + "5 0 : 2\n")
        self.refused(TWO_TEXT + "5 0 : 3\n")
        self.refused("--\n: 1\n")

    def test_what_is_no_program(self):
        for text in ("set x y\n", "set  x 1\n", "in a 0 100\n", "set x 1", " ", "end\n", written(((), deep_block(4)))):
            self.refused(text + "--\n: 0\n")
        self.refused("in a 0 100\n--\n5 : 0\n")
        deep = ((("a", 0, 3),), deep_block(4))
        self.refused(trace_text(Trace(deep, (1,))))

    def test_six_figures_are_the_most(self):
        trace = Trace(many_rows(), (20, 20))
        rows = sum(trace.passed())
        self.assertGreater(rows, 1000000)
        for times in range(999999):
            trace.go()
        text = trace_text(trace)
        self.assertTrue(text.endswith("\n--\n20 20 : 999999\n"))
        self.assertEqual(read_trace(text).passed(), (999999, rows - 999999))
        trace.go()
        self.assertTrue(trace_text(trace).endswith("\n--\n20 20 : 1000000\n"))
        self.refused(trace_text(trace))

    def test_things_that_are_no_texts(self):
        deep, deep_list = deep_things()
        for thing in (0, 1, -1, 10 ** 30, True, False, None, [], (), ["--\n: 0\n"], ("--\n: 0\n",), (DOWN, (2,)), deep,
                      deep_list, [None], ((), ())):
            self.refused(thing)

    def test_drawn_things(self):
        source = random.Random(133)
        for turn in range(2000):
            self.refused(drawn_thing(source, source.randrange(6)))

    def test_drawn_traces(self):
        source = random.Random(134)
        for turn in range(300):
            program = drawn(source, turn)
            trace = Trace(program, drawn_worths(source, program))
            for times in range(source.randrange(1 + min(40, sum(trace.passed())))):
                trace.go()
            worths = " ".join(map(str, trace.ground()[1]))
            self.both(trace, written(program) + f"--\n{worths} : {trace.passed()[0]}\n".replace("\n : ", "\n: "))

    def test_a_sign_put_in_taken_out_or_exchanged(self):
        told = {True: 0, False: 0}
        for trace_told in (DOWN_TEXT + "2 : 10\n", TWO_TEXT + "-5 3 : 2\n", "--\n: 0\n", "in a 0 99\n--\n12 : 0\n"):
            for at in range(len(trace_told) + 1):
                for sign in " \n-+:0123456789ab~":
                    for text in (trace_told[:at] + sign + trace_told[at:], trace_told[:at] + sign + trace_told[at + 1:],
                                 trace_told[:at] + trace_told[at + 1:]):
                        told[self.is_read(text)] += 1
        self.assertGreater(min(told.values()), 200)

    def is_read(self, text):
        """Whether it is read; then it is the writing of what is told, and else it is NoText."""
        try:
            trace = read_trace(text)
        except NoText:
            return False
        self.assertEqual(trace_text(trace), text)
        program, worths = trace.ground()
        self.is_at(trace, traced(program, worths), trace.passed()[0])
        return True


if __name__ == "__main__":
    unittest.main()
