"""5.1 to 5.4 and 0.2 (d), (e): rooms, plans, runs by them, and the rooms of names."""

import random
import unittest

from samples import (
    Refused, SecondWay, all_worths_of, drawn_counting, drawn_program, drawn_thing, drawn_worths, name, num, parts_of,
    stepped, with_part)
from smallrooms.errors import BadPaper, BadPlan, NoWorths, RoomError
from smallrooms.papers import paper_for, shown
from smallrooms.plans import is_plan, many_marks, name_rooms, plan_by, room_of, run_narrow, wrapped
from smallrooms.programs import spots
from smallrooms.running import run, traced

LEAST, GREATEST = -32768, 32767

A, B = name("a"), name("b")
ALL_MARKS = ((), ("over",), ("zero",), ("over", "zero"))


def setting(term, ins=()):
    return (ins, (("set", "x", term),))


def row_of(term, ins=()):
    """The bits and marks of a sum that is set, in a program without whiles."""
    program = setting(term, ins)
    return {path: row for path, *row in plan_by(program, paper_for(program))}.get((0, 0))


class RoomsTest(unittest.TestCase):
    def test_rooms(self):
        self.assertEqual(room_of(4), (-8, 7))
        self.assertEqual(room_of(8), (-128, 127))
        self.assertEqual(room_of(16), (-32768, 32767))

    def test_wrapped_about_the_edges(self):
        for bits, size in ((4, 16), (8, 256), (16, 65536)):
            low, high = room_of(bits)
            for worth in (low, low + 1, -1, 0, 1, high - 1, high):
                self.assertEqual(wrapped(worth, bits), worth)
                for times in (-3, -1, 1, 2, 10 ** 20):
                    self.assertEqual(wrapped(worth + times * size, bits), worth)
            self.assertEqual(wrapped(high + 1, bits), low)
            self.assertEqual(wrapped(low - 1, bits), high)
            self.assertEqual(wrapped(size, bits), 0)
            self.assertEqual(wrapped(-size, bits), 0)

    def test_wrapped_is_the_one_number_in_the_room(self):
        for bits, size in ((4, 16), (8, 256)):
            low, high = room_of(bits)
            for worth in range(-600, 600):
                told = wrapped(worth, bits)
                self.assertEqual([n for n in range(low, high + 1) if (n - worth) % size == 0], [told])


class PlanTest(unittest.TestCase):
    def test_fewest_bits(self):
        for low, high, bits in (
                (0, 0, 4), (-8, 7, 4), (0, 8, 8), (-9, 0, 8), (-99, 99, 8), (7, 7, 4), (8, 8, 8), (-8, -8, 4), (-9, -9, 8)):
            self.assertEqual(row_of(A, (("a", low, high),)), [bits, ()], (low, high))
        for n, bits in ((127, 8), (128, 16), (-128, 8), (-129, 16), (GREATEST, 16), (LEAST, 16), (300, 16)):
            self.assertEqual(row_of(num(n)), [bits, ()], n)

    def test_over(self):
        ins = (("a", 0, 9),)
        self.assertEqual(row_of(("add", num(GREATEST - 9), A), ins), [16, ()])
        self.assertEqual(row_of(("add", num(GREATEST - 8), A), ins), [16, ("over",)])
        self.assertEqual(row_of(("sub", num(LEAST + 9), A), ins), [16, ()])
        self.assertEqual(row_of(("sub", num(LEAST + 8), A), ins), [16, ("over",)])
        self.assertEqual(row_of(("mul", num(GREATEST), A), ins), [16, ("over",)])
        self.assertIsNone(row_of(("max", ("add", num(GREATEST), A), num(5)), (("a", 1, 9),)))

    def test_four_bits_where_nothing_is_in_the_wide_room(self):
        self.assertEqual(row_of(("add", num(GREATEST), num(1))), [4, ("over",)])
        self.assertEqual(row_of(("add", num(LEAST), num(-1))), [4, ("over",)])
        self.assertEqual(row_of(("mul", num(GREATEST), num(GREATEST))), [4, ("over",)])
        self.assertEqual(row_of(("quo", num(LEAST), num(-1))), [4, ("over",)])

    def test_zero(self):
        self.assertEqual(row_of(("quo", num(9), A), (("a", -1, 1),)), [8, ("zero",)])
        self.assertEqual(row_of(("quo", num(7), A), (("a", 0, 1),)), [4, ("zero",)])
        self.assertEqual(row_of(("quo", num(7), A), (("a", -1, 0),)), [4, ("zero",)])
        self.assertEqual(row_of(("quo", num(9), A), (("a", 1, 9),)), [8, ()])
        self.assertEqual(row_of(("quo", num(9), A), (("a", -9, -1),)), [8, ()])
        self.assertEqual(row_of(("add", num(9), A), (("a", -1, 1),)), [8, ()])
        self.assertEqual(row_of(("quo", A, num(2)), (("a", -1, 1),)), [4, ()])

    def test_both_marks(self):
        self.assertEqual(row_of(("quo", num(LEAST), A), (("a", -1, 0),)), [4, ("over", "zero")])
        self.assertEqual(row_of(("quo", num(LEAST), A), (("a", -1, 1),)), [16, ("over", "zero")])

    def test_no_row_where_nothing_is_noted(self):
        self.assertIsNone(row_of(("quo", num(1), num(0))))
        program = ((), (("set", "a", ("quo", num(1), num(0))), ("set", "b", num(1))))
        self.assertEqual(plan_by(program, ()), (((0, 0, 0), 4, ()), ((0, 0, 1), 4, ())))
        self.assertEqual(plan_by(((), ()), ()), ())

    def test_all_rows(self):
        program = ((("a", 0, 9),), (
            ("while", ("less", A, num(200)), 9, (("set", "a", ("mul", A, A)),)),
            ("set", "b", ("quo", num(5), ("sub", A, num(200))))))
        self.assertEqual(plan_by(program, (((0,), (("a", 0, GREATEST),)),)), (
            ((0, 0), 4, ()), ((0, 0, 0), 16, ()), ((0, 0, 1), 16, ()),
            ((0, 1, 0, 0), 16, ("over",)), ((0, 1, 0, 0, 0), 16, ()), ((0, 1, 0, 0, 1), 16, ()),
            ((1, 0), 4, ("zero",)), ((1, 0, 0), 4, ()), ((1, 0, 1), 16, ()),
            ((1, 0, 1, 0), 16, ()), ((1, 0, 1, 1), 16, ())))

    def test_by_another_paper_another_plan(self):
        program = ((("a", 0, 7),), (("while", A, 9, (stepped("a", -1),)),))
        self.assertEqual(plan_by(program, (((0,), (("a", 0, 7),)),))[0], ((0, 0), 4, ()))
        self.assertEqual(plan_by(program, (((0,), (("a", 0, 8),)),))[0], ((0, 0), 8, ()))
        self.assertEqual(plan_by(program, (((0,), (("a", LEAST, 8),)),))[1], ((0, 1, 0, 0), 16, ("over",)))

    def test_drawn_plans_by_what_is_shown(self):
        source = random.Random(51)
        for turn in range(300):
            program = drawn_counting(source) if turn % 2 else drawn_program(source)
            paper = paper_for(program)
            rows = {path: (low, high) for path, low, high in shown(program, paper)}
            terms = dict(spots(program))
            expected = []
            for path in sorted(rows):
                inside = [max(rows[path][0], LEAST), min(rows[path][1], GREATEST)]
                fitting = [bits for bits in (4, 8, 16) if room_of(bits)[0] <= inside[0] and inside[1] <= room_of(bits)[1]]
                marks = ["over"] * (inside != list(rows[path]))
                if terms[path][0] == "quo":
                    marks += ["zero"] * (rows[path + (1,)][0] <= 0 <= rows[path + (1,)][1])
                expected.append((path, 4 if inside[0] > inside[1] else fitting[0], tuple(marks)))
            plan = plan_by(program, paper)
            self.assertEqual(plan, tuple(expected))
            self.assertIs(is_plan(program, plan), True)
            self.assertEqual(many_marks(plan), sum(len(marks) for path, bits, marks in plan))

    def test_many_marks(self):
        self.assertEqual(many_marks(()), 0)
        self.assertEqual(many_marks((((0, 0), 4, ()), ((1, 0), 16, ()))), 0)
        self.assertEqual(many_marks((((0, 0), 4, ("over",)), ((1, 0), 16, ("zero",)), ((2, 0), 8, ("over", "zero")))), 4)

    def test_plans_told_are_new_and_nothing_is_changed(self):
        program = ((("a", 0, 7),), (("while", A, 9, (stepped("a", -1),)),))
        paper = paper_for(program)
        kept = repr((program, paper))
        plan = plan_by(program, paper)
        self.assertIs(type(plan), tuple)
        name_rooms(program, paper)
        run_narrow(program, plan, (3,))
        self.assertEqual(repr((program, paper)), kept)


class IsPlanTest(unittest.TestCase):
    program = ((("a", 0, 1),), (("set", "b", ("quo", A, num(2))), ("if", A, (("set", "b", B),), ())))

    def test_plans(self):
        paths = [path for path, term in spots(self.program)]
        self.assertEqual(len(paths), 5)
        for plan in ((), (((0, 0), 4, ()),), (((1, 1, 0, 0), 16, ("over", "zero")),),
                     tuple((path, 8, ("zero",)) for path in paths), tuple((path, 16, ("over",)) for path in paths[1:])):
            self.assertIs(is_plan(self.program, plan), True, plan)
        for bits in (4, 8, 16):
            for marks in ALL_MARKS:
                self.assertIs(is_plan(self.program, (((1, 0), bits, marks),)), True)

    def refused(self, thing):
        self.assertIs(is_plan(self.program, thing), False, thing)
        for worths in ((0,), (7,), ()):
            with self.assertRaises(BadPlan, msg=thing):
                run_narrow(self.program, thing, worths)

    def test_spoilt_rows(self):
        row = ((1, 0), 4, ())
        for thing in (
                (row, row), (row, ((0, 0), 4, ())), (((1, 0), 4),), (((1, 0), 4, (), ()),), (list(row),), [row], row,
                (((1, 0), 5, ()),), (((1, 0), 0, ()),), (((1, 0), -4, ()),), (((1, 0), 32, ()),), (((1, 0), True, ()),),
                (((1, 0), None, ()),), (((1, 0), "4", ()),), (((1, 0), (4,), ()),), (((1, 0), [4], ()),),
                (((1, 0), 4, []),), (((1, 0), 4, ["over"]),), (((1, 0), 4, "over"),), (((1, 0), 4, None),),
                (((1, 0), 4, ("long",)),), (((1, 0), 4, ("over", "over")),), (((1, 0), 4, ("zero", "over")),),
                (((1, 0), 4, ("over", "zero", "zero")),), (((1, 0), 4, ("over", "long")),), (((1, 0), 4, (0,)),)):
            self.refused(thing)

    def test_paths_that_are_none_of_spots(self):
        for path in ((), (0,), (1,), (0, 1), (1, 1), (1, 1, 0), (1, 2, 0, 0), (0, 0, 2), (0, 0, 0, 0), (2, 0), (9, 9), (-1, 0),
                     (True, 0), (1, False), (False, 0), [1, 0], ([1], 0), (None, 0), ("1", "0"), 1, None, "10", True):
            self.refused(((path, 4, ()),))

    def test_other_things(self):
        deep = ()
        deep_list = []
        for level in range(12):
            deep, deep_list = (deep,), [deep_list]
        for thing in (0, 1, True, False, None, "", "plan", [], ((),), (((),),), (None,), ("",), ("abc",), (4,), deep,
                      deep_list, ((deep, 4, ()),), (((1, 0), deep, ()),), (((1, 0), 4, deep),), (((1, 0), 4, deep_list),)):
            self.refused(thing)

    def test_drawn_things(self):
        source = random.Random(52)
        for turn in range(3000):
            thing = drawn_thing(source, source.randrange(1, 6))
            if thing != ():
                self.assertIs(is_plan(self.program, thing), False, thing)

    def test_any_part_put_in_the_stead(self):
        source = random.Random(53)
        plan = tuple((path, 4, ("over", "zero")) for path, term in spots(self.program))
        for path, part in parts_of(plan):
            for turn in range(30):
                thing = with_part(plan, path, drawn_thing(source, 3))
                if path and not (len(path) == 2 and path[1] == 2 and thing[path[0]][2] == ()) and repr(thing) != repr(plan):
                    self.refused(thing)

    def test_of_another_program(self):
        self.assertIs(is_plan(((), ()), ()), True)
        self.assertIs(is_plan(((), ()), (((0, 0), 4, ()),)), False)


class NarrowWay(SecondWay):
    """The second way to runs, by a plan."""

    def __init__(self, program, plan):
        super().__init__(program)
        self.plan = {path: (bits, marks) for path, bits, marks in plan}

    def had(self, path, reckoned):
        bits, marks = self.plan.get(path, (16, ("over", "zero")))
        try:
            comes_to = reckoned()
        except ZeroDivisionError:
            if "zero" in marks:
                raise Refused("zero", path) from None
            return 0
        if "over" in marks and not LEAST <= comes_to <= GREATEST:
            raise Refused("over", path)
        signed = comes_to & (2 ** bits - 1)
        return signed - 2 ** bits if signed >= 2 ** (bits - 1) else signed


class RunTest(unittest.TestCase):
    def told(self, term, plan, ins=(), worths=()):
        told = run_narrow(setting(term, ins), plan, worths)
        return dict(told[1])["x"] if told[0] == "told" else told

    def test_wrapped_where_the_mark_is_missing(self):
        over = ("add", num(GREATEST), num(1))
        self.assertEqual(self.told(over, ()), ("refused", "over", (0, 0)))
        for marks in ALL_MARKS:
            for bits, worth in ((4, 0), (8, 0), (16, LEAST)):
                expected = ("refused", "over", (0, 0)) if "over" in marks else worth
                self.assertEqual(self.told(over, (((0, 0), bits, marks),)), expected)

    def test_wrapped_in_the_wide_room_whatever_the_marks(self):
        for marks in ALL_MARKS:
            self.assertEqual(self.told(num(8), (((0, 0), 4, marks),)), -8)
            self.assertEqual(self.told(num(300), (((0, 0), 8, marks),)), 44)
            self.assertEqual(self.told(num(300), (((0, 0), 16, marks),)), 300)

    def test_each_spot_is_wrapped(self):
        term = ("add", num(9), num(20))
        self.assertEqual(self.told(term, (((0, 0, 0), 4, ()),)), 13)
        self.assertEqual(self.told(term, (((0, 0, 0), 4, ()), ((0, 0, 1), 4, ()))), -3)
        self.assertEqual(self.told(term, (((0, 0), 4, ()),)), -3)
        self.assertEqual(self.told(A, (((0, 0), 4, ()),), (("a", 0, 99),), (20,)), 4)

    def test_names_keep_what_came_in(self):
        told = run_narrow(setting(A, (("a", 0, 99),)), (((0, 0), 4, ()),), (20,))
        self.assertEqual(told, ("told", (("a", 20), ("x", 4))))

    def test_a_worth_out_of_a_wrapped_sum_is_refused_by_its_mark(self):
        term = ("add", ("add", num(GREATEST), num(1)), num(-1))
        self.assertEqual(self.told(term, (((0, 0, 0), 16, ()),)), ("refused", "over", (0, 0)))
        self.assertEqual(self.told(term, (((0, 0), 16, ()), ((0, 0, 0), 16, ()))), GREATEST)

    def test_zero(self):
        zero = ("quo", num(5), num(0))
        self.assertEqual(self.told(zero, ()), ("refused", "zero", (0, 0)))
        for marks in ALL_MARKS:
            expected = ("refused", "zero", (0, 0)) if "zero" in marks else 0
            for bits in (4, 8, 16):
                self.assertEqual(self.told(zero, (((0, 0), bits, marks),)), expected)
        self.assertEqual(self.told(("add", zero, num(3)), (((0, 0, 0), 4, ("over",)),)), 3)
        # 16 is 0 in 4 bits.
        self.assertEqual(self.told(("quo", num(5), num(16)), (((0, 0, 1), 4, ()),)), ("refused", "zero", (0, 0)))

    def test_questions_and_rounds_by_what_is_wrapped(self):
        program = ((), (("if", num(16), (("set", "x", num(1)),), (("set", "x", num(2)),)),))
        self.assertEqual(run_narrow(program, (((0, 0), 4, ()),), ()), ("told", (("x", 2),)))
        loop = ((("a", 0, 40),), (("while", A, 3, (stepped("a", 1),)),))
        self.assertEqual(run_narrow(loop, (((0, 0), 4, ()),), (14,)), ("told", (("a", 16),)))
        self.assertEqual(run_narrow(loop, (((0, 0), 4, ()),), (12,)), ("refused", "long", (0,)))
        self.assertEqual(run_narrow(loop, (((0, 0), 8, ()),), (14,)), ("refused", "long", (0,)))
        self.assertEqual(run_narrow(loop, (((0, 1, 0, 0), 4, ()),), (15,)), ("told", (("a", 0),)))

    def test_bad_plan_ahead_of_no_worths(self):
        program = setting(A, (("a", 0, 1),))
        for plan in (None, (((0, 0), 5, ()),), [], 7, True, "x"):
            for worths in ((0,), (2,), (), (True,)):
                with self.assertRaises(BadPlan):
                    run_narrow(program, plan, worths)
        for worths in ((2,), (), (0, 0), (True,), (-1,)):
            with self.assertRaises(NoWorths):
                run_narrow(program, (((0, 0), 4, ()),), worths)
        with self.assertRaises(RoomError):
            run_narrow(program, None, (0,))

    def test_the_same_by_the_papers_plan(self):
        source = random.Random(54)
        words = {}
        for turn in range(500):
            program = drawn_counting(source) if turn % 2 else drawn_program(source)
            plan = plan_by(program, paper_for(program))
            for worths in all_worths_of(program):
                told = run(program, worths)
                words[told[0] if told[0] == "told" else told[1]] = True
                self.assertEqual(run_narrow(program, plan, worths), told, (program, plan, worths))
                if told[0] == "refused" and told[1] != "long":
                    marks = {path: marks for path, bits, marks in plan}.get(told[2], ("over", "zero"))
                    self.assertIn(told[1], marks)
        self.assertEqual(sorted(words), ["long", "over", "told", "zero"])

    def test_the_same_with_rows_left_out_more_bits_and_more_marks(self):
        source = random.Random(55)
        for turn in range(400):
            program = drawn_counting(source) if turn % 2 else drawn_program(source)
            plan = []
            for path, bits, marks in plan_by(program, paper_for(program)):
                more = [mark for mark in ("over", "zero") if mark in marks or source.randrange(2)]
                if source.randrange(4):
                    plan.append((path, source.choice([b for b in (4, 8, 16) if b >= bits]), tuple(more)))
            for worths in all_worths_of(program):
                self.assertEqual(run_narrow(program, tuple(plan), worths), run(program, worths))

    def test_the_empty_plan_is_a_run(self):
        source = random.Random(56)
        for turn in range(500):
            program = drawn_program(source)
            worths = drawn_worths(source, program)
            self.assertEqual(run_narrow(program, (), worths), run(program, worths))

    def test_drawn_plans_against_the_second_way(self):
        source = random.Random(57)
        unlike = 0
        for turn in range(1500):
            program = drawn_counting(source) if turn % 2 else drawn_program(source)
            plan = tuple(
                (path, source.choice((4, 8, 16)), source.choice(ALL_MARKS))
                for path, term in spots(program) if source.randrange(3))
            worths = drawn_worths(source, program)
            told = NarrowWay(program, plan).done(worths)
            self.assertEqual(run_narrow(program, plan, worths), told, (program, plan, worths))
            unlike += told != run(program, worths)
        self.assertGreater(unlike, 300)


class NameRoomsTest(unittest.TestCase):
    def test_what_comes_in(self):
        program = ((("a", 0, 7), ("b", -8, 0), ("c", -9, 0), ("d", 0, 8)), ())
        self.assertEqual(name_rooms(program, ()), (("a", 4), ("b", 4), ("c", 8), ("d", 8)))
        self.assertEqual(name_rooms(((), ()), ()), ())

    def test_what_comes_in_from_beyond_the_bounds(self):
        self.assertEqual(name_rooms(((("a", -128, 127), ("b", 0, 128), ("c", 0, GREATEST + 1)), ()), ()), (
            ("a", 8), ("b", 16), ("c", 16)))

    def test_what_is_set(self):
        program = ((("b", 0, 7),), (
            ("set", "c", ("add", B, num(1))), ("set", "a", num(128)), ("set", "b", num(-128)), ("set", "d", num(1))))
        self.assertEqual(name_rooms(program, ()), (("a", 16), ("b", 8), ("c", 8), ("d", 4)))

    def test_all_that_a_name_is_set_to(self):
        program = ((("a", 0, 1),), (
            ("if", A, (("set", "b", num(7)),), (("set", "b", num(-8)),)), ("set", "a", num(300)), ("set", "a", num(0))))
        self.assertEqual(name_rooms(program, ()), (("a", 16), ("b", 4)))

    def test_what_is_in_the_wide_room(self):
        self.assertEqual(name_rooms(setting(("mul", A, num(GREATEST)), (("a", 0, 2),)), ()), (("a", 4), ("x", 16)))
        self.assertEqual(name_rooms(setting(("mul", ("mul", A, num(200)), num(200)), (("a", 1, 1),)), ()), (("a", 4),))

    def test_names_that_are_never_set(self):
        over = ("add", num(GREATEST), num(1))
        zero = ("quo", num(1), num(0))
        for never in (over, zero, ("add", over, num(1)), ("add", zero, num(1))):
            self.assertEqual(name_rooms(((), (("set", "a", never), ("set", "b", num(1)))), ()), ())
        program = ((), (("if", num(0), (("set", "a", num(1)),), (("set", "b", num(1)),)),))
        self.assertEqual(name_rooms(program, ()), (("b", 4),))
        again = ((("a", 0, 7),), (("if", num(0), (("set", "a", num(99)),), ()), ("set", "a", over)))
        self.assertEqual(name_rooms(again, ()), (("a", 4),))

    def test_whiles(self):
        program = ((("a", 0, 7),), (("while", ("less", A, num(9)), 20, (stepped("a", 1), ("set", "b", num(0)))),))
        self.assertEqual(name_rooms(program, (((0,), (("a", 0, 9),)),)), (("a", 8), ("b", 4)))
        # The head may have more than a name ever is set to.
        self.assertEqual(name_rooms(((("a", 0, 7),), (("while", A, 20, (stepped("a", -1),)),)),
                                    (((0,), (("a", 0, 7),)),)), (("a", 4),))
        self.assertEqual(name_rooms(((("a", 0, 7),), (("while", num(0), 20, ()),)),
                                    (((0,), (("a", 0, 300),)),)), (("a", 4),))

    def test_bad_paper(self):
        program = ((("a", 0, 7),), (("while", A, 20, (stepped("a", -1),)),))
        for told in (name_rooms, plan_by):
            for paper in ((), None, 7, (((0,), (("a", 1, 7),)),), [((0,), (("a", 0, 7),))]):
                with self.assertRaises(BadPaper):
                    told(program, paper)

    def test_names_have_room_at_all_times(self):
        source = random.Random(58)
        for turn in range(500):
            program = drawn_counting(source) if turn % 2 else drawn_program(source)
            rooms = {n: room_of(bits) for n, bits in name_rooms(program, paper_for(program))}
            terms = dict(spots(program))
            self.assertEqual(list(rooms), sorted(rooms))
            for worths in all_worths_of(program):
                told = run(program, worths)
                held = list(zip([row[0] for row in program[0]], worths)) + list(told[1] if told[0] == "told" else ())
                held += [(terms[path][1], worth) for path, worth in traced(program, worths) if terms[path][0] == "name"]
                for n, worth in held:
                    self.assertTrue(rooms[n][0] <= worth <= rooms[n][1], (program, worths, n))


if __name__ == "__main__":
    unittest.main()
