"""8.1, 8.2, 8.3 and 0.2 (g): all runs, the marks that they need, and plans of parts joined."""

import random
import unittest

from samples import (
    GREATEST, LEAST, SecondWay, all_worths_of, deep_things, drawn_counting, drawn_program, drawn_thing, name, num, parts_of,
    stepped, with_part)
from smallrooms.errors import BadPlan, RoomError
from smallrooms.papers import paper_for, shown
from smallrooms.plans import is_plan, many_marks, plan_by, run_narrow
from smallrooms.programs import spots
from smallrooms.running import run, traced
from smallrooms.trying import (
    all_worths, bare_plan, exact, full_plan, joined_plans, parted, refusals, witness)

A, B = name("a"), name("b")
BOTH = ("over", "zero")
ALL_MARKS = ((), ("over",), ("zero",), BOTH)

# Refused as "zero" by b 0, as "over" by a 2 and b -1, as "long" by a -1; else told.
ALL_WAYS = ((("a", -1, 2), ("b", -1, 1)), (
    ("set", "c", ("quo", num(6), B)),
    ("set", "d", ("sub", ("mul", A, num(LEAST // 2 + 1)), ("mul", B, num(3)))),
    ("while", ("less", A, num(0)), 2, (("set", "a", ("sub", A, num(1))),)),
))


def drawn(source, turn):
    return drawn_counting(source) if turn % 2 else drawn_program(source)


def drawn_plan(source, program):
    return tuple((path, source.choice((4, 8, 16)), source.choice(ALL_MARKS))
                 for path, term in spots(program) if source.randrange(3))


def no_plans(program):
    """Things that are no plans of a program that has a spot (0, 0)."""
    row = ((0, 0), 4, ())
    deep, deep_list = deep_things()
    return (
        None, 0, 1, True, False, "", "plan", [], [row], row, (list(row),), (row, row), (((0, 0), 5, ()),),
        (((0, 0), True, ()),), (((0, 0), 4, []),), (((0, 0), 4, ("long",)),), (((0, 0), 4, ("zero", "over")),),
        (((0, 0), 4, ("over", "over")),), (((False, 0), 4, ()),), (((0,), 4, ()),), (((99, 0), 4, ()),), (((), 4, ()),),
        (((0, 0), 4),), ((),), deep, deep_list, ((deep, 4, ()),), tuple(reversed(full_plan(program))))


class WorthsTest(unittest.TestCase):
    def test_one_empty_row_where_nothing_comes_in(self):
        self.assertEqual(all_worths(((), ())), [()])

    def test_one_and_more(self):
        self.assertEqual(all_worths(((("a", 3, 3),), ())), [(3,)])
        self.assertEqual(all_worths(((("a", -1, 1),), ())), [(-1,), (0,), (1,)])
        self.assertEqual(all_worths(((("a", -1, 0), ("b", 8, 10)), ())), [
            (-1, 8), (-1, 9), (-1, 10), (0, 8), (0, 9), (0, 10)])
        self.assertEqual(len(all_worths(((("a", -99, 99), ("b", -99, 99)), ()))), 199 * 199)

    def test_rising(self):
        source = random.Random(81)
        for turn in range(300):
            program = drawn(source, turn)
            told = all_worths(program)
            self.assertEqual(told, sorted(set(all_worths_of(program))))
            for worths in told:
                run(program, worths)

    def test_told_lists_are_new(self):
        program = ((("a", 0, 1),), (("set", "b", ("quo", num(1), A)),))
        for told in (all_worths, exact, refusals):
            first = told(program)
            self.assertIs(type(first), list)
            kept = list(first)
            first.clear()
            self.assertEqual(told(program), kept)
        self.assertIsNot(all_worths(((), ())), all_worths(((), ())))


class RunsTest(unittest.TestCase):
    def test_exact(self):
        program = ((("a", -2, 3),), (("if", ("less", A, num(0)), (("set", "b", ("mul", A, A)),), ()), ("set", "c", A)))
        self.assertEqual(exact(program), [
            ((0, 0), 0, 1), ((0, 0, 0), -2, 3), ((0, 0, 1), 0, 0), ((0, 1, 0, 0), 1, 4), ((0, 1, 0, 0, 0), -2, -1),
            ((0, 1, 0, 0, 1), -2, -1), ((1, 0), -2, 3)])
        self.assertEqual(exact(((), ())), [])
        self.assertEqual(exact(((("a", 0, 3),), ())), [])

    def test_exact_has_no_spot_that_is_not_reckoned(self):
        program = ((("a", 0, 3),), (("if", ("less", A, num(9)), (), (("set", "b", A),)),))
        self.assertEqual([row[0] for row in exact(program)], [(0, 0), (0, 0, 0), (0, 0, 1)])

    def test_exact_notes_what_is_refused_as_over(self):
        program = ((("a", 0, 2),), (("set", "b", ("add", num(GREATEST - 1), A)), ("set", "c", A)))
        self.assertEqual(exact(program), [
            ((0, 0), GREATEST - 1, GREATEST + 1), ((0, 0, 0), GREATEST - 1, GREATEST - 1), ((0, 0, 1), 0, 2), ((1, 0), 0, 1)])

    def test_exact_notes_nothing_of_a_quo_by_zero(self):
        self.assertEqual(exact(((), (("set", "b", ("quo", num(1), num(0))),))), [((0, 0, 0), 1, 1), ((0, 0, 1), 0, 0)])
        self.assertEqual(exact(((("a", 0, 2),), (("set", "b", ("quo", num(9), A)),)))[0], ((0, 0), 4, 9))

    def test_refusals(self):
        self.assertEqual(refusals(ALL_WAYS), [("long", (2,)), ("over", (1, 0)), ("zero", (0, 0))])
        self.assertEqual(refusals(((), ())), [])
        self.assertEqual(refusals(((), (("set", "b", ("quo", num(1), num(0))),))), [("zero", (0, 0))])
        self.assertEqual(refusals(((("a", 0, 9),), (("set", "b", A),))), [])

    def test_witness(self):
        self.assertEqual(witness(ALL_WAYS, "zero", (0, 0)), (-1, 0))
        self.assertEqual(witness(ALL_WAYS, "long", (2,)), (-1, -1))
        self.assertEqual(run(ALL_WAYS, witness(ALL_WAYS, "over", (1, 0))), ("refused", "over", (1, 0)))
        self.assertEqual(witness(((), (("set", "b", ("quo", num(1), num(0))),)), "zero", (0, 0)), ())

    def test_no_witness(self):
        for word, path in (("zero", (1, 0)), ("over", (0, 0)), ("long", (0, 0)), ("over", (2,)), ("zero", ()),
                           ("zero", (9, 9)), ("told", (0, 0)), ("", (0, 0)), ("zero", (-1,))):
            self.assertIsNone(witness(ALL_WAYS, word, path))
        self.assertIsNone(witness(((), ()), "over", ()))

    def test_against_going_through_all_runs(self):
        source = random.Random(82)
        found = 0
        for turn in range(500):
            program = drawn(source, turn)
            had, ways = {}, {}
            for worths in all_worths_of(program):
                way = SecondWay(program)
                told = way.done(worths)
                for path, worth in way.rows:
                    had.setdefault(path, []).append(worth)
                if told[0] == "refused":
                    ways.setdefault(told[1:], worths)
            self.assertEqual(exact(program), [(path, min(had[path]), max(had[path])) for path in sorted(had)])
            self.assertEqual(refusals(program), sorted(ways))
            for way in ways:
                self.assertEqual(witness(program, *way), ways[way])
            for path, term in spots(program)[:6]:
                for word in ("over", "zero", "long"):
                    self.assertEqual(witness(program, word, path), ways.get((word, path)))
            found += len(ways)
        self.assertGreater(found, 200)

    def test_exact_lies_in_what_is_shown(self):
        source = random.Random(83)
        for turn in range(300):
            program = drawn(source, turn)
            rows = {path: (low, high) for path, low, high in shown(program, paper_for(program))}
            for path, low, high in exact(program):
                self.assertTrue(rows[path][0] <= low <= high <= rows[path][1])

    def test_nothing_is_changed(self):
        kept = repr(ALL_WAYS)
        plan = full_plan(ALL_WAYS)
        plan_kept = repr(plan)
        for told in (all_worths, exact, refusals, full_plan):
            told(ALL_WAYS)
        bare_plan(ALL_WAYS, plan)
        joined_plans(ALL_WAYS, plan, plan)
        parted(ALL_WAYS, "a", 0)
        self.assertEqual((repr(ALL_WAYS), repr(plan)), (kept, plan_kept))


class PlansTest(unittest.TestCase):
    def test_full_plan(self):
        program = ((("a", 0, 1),), (("set", "b", ("add", A, num(1))), ("if", A, (), (("set", "c", A),))))
        self.assertEqual(full_plan(program), (
            ((0, 0), 16, BOTH), ((0, 0, 0), 16, BOTH), ((0, 0, 1), 16, BOTH), ((1, 0), 16, BOTH), ((1, 2, 0, 0), 16, BOTH)))
        self.assertEqual(full_plan(((), ())), ())

    def test_bare_plan(self):
        self.assertEqual(bare_plan(ALL_WAYS, ()), ())
        self.assertEqual(bare_plan(ALL_WAYS, (((0, 0), 4, BOTH), ((0, 0, 0), 8, BOTH), ((1, 0), 16, BOTH), ((2, 0), 4, ()))), (
            ((0, 0), 4, ("zero",)), ((0, 0, 0), 8, ()), ((1, 0), 16, ("over",)), ((2, 0), 4, ())))
        # A mark that is not there is not put in.
        self.assertEqual(bare_plan(ALL_WAYS, (((0, 0), 4, ("over",)), ((1, 0), 16, ("zero",)))), (
            ((0, 0), 4, ()), ((1, 0), 16, ())))

    def test_a_spot_that_needs_both(self):
        program = ((("a", -1, 1),), (("set", "b", ("quo", num(LEAST), A)),))
        self.assertEqual(bare_plan(program, full_plan(program)), (((0, 0), 16, BOTH), ((0, 0, 0), 16, ()), ((0, 0, 1), 16, ())))

    def test_runs_of_2_3_tell_what_is_needed(self):
        # By this plan the run is not refused, since the least number is 0 in 4 bits; by itself it is.
        program = ((), (("set", "b", ("quo", num(LEAST), ("sub", num(15), num(16)))),))
        plan = (((0, 0), 16, BOTH), ((0, 0, 0), 4, ()))
        self.assertEqual(run_narrow(program, plan, ())[0], "told")
        self.assertEqual(bare_plan(program, plan), (((0, 0), 16, ("over",)), ((0, 0, 0), 4, ())))

    def test_runs_by_full_and_bare_plans(self):
        source = random.Random(84)
        left = 0
        for turn in range(400):
            program = drawn(source, turn)
            full = full_plan(program)
            self.assertEqual(full, tuple((path, 16, BOTH) for path, term in spots(program)))
            self.assertIs(is_plan(program, full), True)
            bares = [bare_plan(program, full), bare_plan(program, plan_by(program, paper_for(program)))]
            for plan in [full] + bares:
                for worths in all_worths_of(program):
                    self.assertEqual(run_narrow(program, plan, worths), run(program, worths), (program, plan, worths))
            left += many_marks(bares[0])
        self.assertGreater(left, 80)

    def test_each_mark_that_is_left_is_needed_by_some_run(self):
        source = random.Random(85)
        for turn in range(300):
            program = drawn(source, turn)
            ways = [run(program, worths) for worths in all_worths_of(program)]
            for plan in (full_plan(program), drawn_plan(source, program), plan_by(program, paper_for(program))):
                bare = bare_plan(program, plan)
                self.assertIs(is_plan(program, bare), True)
                self.assertEqual([row[:2] for row in bare], [row[:2] for row in plan])
                for row, old in zip(bare, plan):
                    self.assertEqual(row[2], tuple(mark for mark in old[2] if ("refused", mark, row[0]) in ways))
                self.assertEqual(bare_plan(program, bare), bare)

    def test_without_a_mark_that_is_left_some_run_is_another(self):
        source = random.Random(86)
        many = 0
        for turn in range(200):
            program = drawn(source, turn)
            bare = bare_plan(program, full_plan(program))
            for at, (path, bits, marks) in enumerate(bare):
                for mark in marks:
                    less = bare[:at] + ((path, bits, tuple(m for m in marks if m != mark)),) + bare[at + 1:]
                    self.assertNotEqual(run_narrow(program, less, witness(program, mark, path)), ("refused", mark, path))
                    many += 1
        self.assertGreater(many, 40)


class JoinedTest(unittest.TestCase):
    program = ((("a", 0, 1),), (("set", "b", ("quo", A, num(2))), ("set", "c", A)))

    def test_rows_of_both(self):
        one = (((0, 0), 4, ("over",)), ((0, 0, 0), 8, ()), ((1, 0), 16, ("zero",)))
        other = (((0, 0), 8, ("zero",)), ((0, 0, 1), 8, BOTH), ((1, 0), 4, ("zero",)))
        told = (((0, 0), 8, BOTH), ((1, 0), 16, ("zero",)))
        self.assertEqual(joined_plans(self.program, one, other), told)
        self.assertEqual(joined_plans(self.program, other, one), told)
        self.assertEqual(joined_plans(self.program, one, one), one)
        self.assertEqual(joined_plans(self.program, one, ()), ())
        self.assertEqual(joined_plans(self.program, (), one), ())
        self.assertEqual(joined_plans(self.program, (), ()), ())

    def test_all_bits_and_marks(self):
        for bits in (4, 8, 16):
            for other_bits in (4, 8, 16):
                for marks in ALL_MARKS:
                    for other_marks in ALL_MARKS:
                        told = joined_plans(self.program, (((1, 0), bits, marks),), (((1, 0), other_bits, other_marks),))
                        either = tuple(mark for mark in BOTH if mark in marks or mark in other_marks)
                        self.assertEqual(told, (((1, 0), max(bits, other_bits), either),))

    def test_drawn(self):
        source = random.Random(87)
        for turn in range(300):
            program = drawn(source, turn)
            one, other = drawn_plan(source, program), drawn_plan(source, program)
            told = joined_plans(program, one, other)
            self.assertIs(is_plan(program, told), True)
            both = set(row[0] for row in one) & set(row[0] for row in other)
            self.assertEqual([row[0] for row in told], sorted(both))

    def test_bad_plan(self):
        kept = (((0, 0), 4, ()),)
        for thing in no_plans(self.program):
            for tried in (lambda: joined_plans(self.program, thing, kept), lambda: joined_plans(self.program, kept, thing),
                          lambda: joined_plans(self.program, thing, thing), lambda: bare_plan(self.program, thing)):
                with self.assertRaises(BadPlan, msg=thing):
                    tried()
        with self.assertRaises(RoomError):
            bare_plan(self.program, None)

    def test_bad_plan_of_drawn_things(self):
        source = random.Random(88)
        plan = tuple((path, 4, BOTH) for path, term in spots(self.program))
        things = [drawn_thing(source, source.randrange(6)) for turn in range(500)]
        things += [with_part(plan, path, drawn_thing(source, 3)) for path, part in parts_of(plan) for turn in range(10)]
        refused = 0
        for thing in things:
            if is_plan(self.program, thing):
                bare_plan(self.program, thing)
                continue
            refused += 1
            for tried in (lambda: joined_plans(self.program, thing, ()), lambda: joined_plans(self.program, (), thing),
                          lambda: bare_plan(self.program, thing)):
                with self.assertRaises(BadPlan):
                    tried()
        self.assertGreater(refused, 500)


class PartedTest(unittest.TestCase):
    block = (("set", "c", A),)

    def part(self, low, high):
        return ((("a", low, high), ("b", 0, 9)), self.block)

    def test_at_each_worth(self):
        program = self.part(-2, 2)
        for at in range(-2, 2):
            self.assertEqual(parted(program, "a", at), (self.part(-2, at), self.part(at + 1, 2)))

    def test_beyond(self):
        program = self.part(-2, 2)
        for at in (-3, -4, -99, -10 ** 9):
            self.assertEqual(parted(program, "a", at), (None, program))
        for at in (2, 3, 99, 10 ** 9):
            self.assertEqual(parted(program, "a", at), (program, None))

    def test_one_worth(self):
        program = self.part(5, 5)
        self.assertEqual(parted(program, "a", 4), (None, program))
        self.assertEqual(parted(program, "a", 5), (program, None))

    def test_the_other_name(self):
        program = self.part(-2, 2)
        self.assertEqual(parted(program, "b", 3), (
            ((("a", -2, 2), ("b", 0, 3)), self.block), ((("a", -2, 2), ("b", 4, 9)), self.block)))

    def test_a_name_that_does_not_come_in(self):
        program = self.part(-2, 2)
        for n in ("c", "x", "zz", "ab"):
            for at in (-99, 0, 99):
                told = parted(program, n, at)
                self.assertEqual(told, (program, program))
                self.assertIs(type(told), tuple)
        self.assertEqual(parted(((), ()), "a", 0), (((), ()), ((), ())))

    def test_parts_have_all_worths(self):
        source = random.Random(89)
        for turn in range(200):
            program = drawn(source, turn)
            for n, low, high in program[0]:
                for at in range(low - 2, high + 3):
                    parts = [part for part in parted(program, n, at) if part is not None]
                    worths = [row for part in parts for row in all_worths(part)]
                    self.assertEqual(sorted(worths), all_worths(program))

    def test_by_joined_plans_of_the_parts_the_whole_runs_the_same(self):
        source = random.Random(90)
        for turn in range(300):
            program = drawn(source, turn)
            for n, low, high in program[0] + (("zz", 0, 0),):
                one, other = parted(program, n, source.randrange(low - 1, high + 1))
                plans = [plan_by(part, paper_for(part)) for part in (one, other) if part is not None]
                plan = joined_plans(program, plans[0], plans[-1])
                for worths in all_worths_of(program):
                    self.assertEqual(run_narrow(program, plan, worths), run(program, worths), (program, plan, worths))

    def test_joined_plans_of_parts_may_need_fewer_marks(self):
        program = ((("a", -9, 9),), (("set", "c", ("quo", num(7), ("add", ("mul", A, A), num(1)))),))
        self.assertEqual(many_marks(plan_by(program, ())), 1)
        parts = parted(program, "a", -1)
        plan = joined_plans(program, plan_by(parts[0], ()), plan_by(parts[1], ()))
        self.assertEqual(len(plan), len(spots(program)))
        self.assertEqual(many_marks(plan), 0)
        for worths in all_worths(program):
            self.assertEqual(run_narrow(program, plan, worths), run(program, worths))


class WaysTest(unittest.TestCase):
    def test_exact_is_traced(self):
        program = ((("a", 0, 5),), (("while", num(1), 20, (("set", "a", ("mul", ("add", A, num(1)), num(9))),)),))
        worths = [row for w in all_worths(program) for row in traced(program, w)]
        highs = {path: max(worth for p, worth in worths if p == path) for path, worth in worths}
        self.assertGreater(max(highs.values()), GREATEST)
        self.assertEqual({path: high for path, low, high in exact(program)}, highs)
        self.assertEqual([word for word, path in refusals(program)], ["over"])

    def test_a_while_that_goes_on_too_long(self):
        program = ((("a", 0, 5),), (("while", A, 3, (stepped("a", -1),)),))
        self.assertEqual(refusals(program), [("long", (0,))])
        self.assertEqual(witness(program, "long", (0,)), (4,))
        self.assertIsNone(witness(program, "long", (0, 0)))


if __name__ == "__main__":
    unittest.main()
