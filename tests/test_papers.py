"""4.1, 4.2, 4.3 and 0.2 (c): papers, what is shown by them, and the papers that are found."""

import random
import unittest

from samples import (
    all_worths_of, drawn_counting, drawn_program, drawn_thing, name, num, parts_of, stepped, wide_paper, with_part)
from smallrooms.errors import BadPaper, RoomError
from smallrooms.papers import is_paper, paper_for, shown
from smallrooms.plans import name_rooms, plan_by
from smallrooms.programs import spots, whiles
from smallrooms.running import run, traced
from smallrooms.shelves import behind
from smallrooms.stretches import is_within, joined, met, stretch_of

LEAST, GREATEST = -32768, 32767
WIDE = (LEAST, GREATEST)

A, B, I = name("a"), name("b"), name("i")
ZERO = ("quo", num(1), num(0))
OVER = ("add", num(GREATEST), num(1))


class Ended(Exception):
    """Nothing goes on."""


class Refused(Exception):
    """The paper is not so."""


class SecondReader:
    """What 4.1 and 4.2 say, read by errors that end a way: a second, other way through a program by a paper."""

    def __init__(self, program, paper):
        self.noted = []
        self.rows = dict(paper)
        if list(paper) != sorted(self.rows.items()):
            raise Refused
        try:
            self.block(program[1], (), {n: (low, high) for n, low, high in program[0]})
        except Ended:
            pass
        if self.rows:
            raise Refused

    def block(self, block, path, book):
        for at, deed in enumerate(block):
            getattr(self, "deed_" + deed[0])(deed, path + (at,), book)

    def deed_set(self, deed, path, book):
        book[deed[1]] = self.show(deed[2], path + (0,), book)

    def sides(self, deed, path, book, blocks):
        """The ends of the blocks, by whether they are so; for a block not gone through, or that ends, there is none."""
        has = self.show(deed[1], path + (0,), book)
        ends = {}
        for is_so, block, number in blocks:
            side = behind(deed[1], book, is_so) if (has != (0, 0) if is_so else has[0] <= 0 <= has[1]) else None
            if side is not None:
                try:
                    self.block(block, path + (number,), side)
                    ends[is_so] = side
                except Ended:
                    pass
        return ends

    def deed_if(self, deed, path, book):
        ends = list(self.sides(deed, path, book, ((True, deed[2], 1), (False, deed[3], 2))).values())
        if not ends:
            raise Ended
        book.clear()
        for n in ends[0]:
            if n in ends[-1]:
                book[n] = joined(ends[0][n], ends[-1][n])

    def deed_while(self, deed, path, book):
        if path not in self.rows:
            raise Refused
        head = {n: (low, high) for n, low, high in self.rows.pop(path)}
        if set(head) != set(book) or not all(is_within(book[n], head[n]) for n in book):
            raise Refused
        ends = self.sides(deed, path, head, ((True, deed[3], 1), (False, (), 2)))
        if True in ends and not all(is_within(ends[True][n], head[n]) for n in head):
            raise Refused
        book.clear()
        if False not in ends:
            raise Ended
        book.update(ends[False])

    def show(self, term, path, book):
        if term[0] == "num":
            stretch = (term[1], term[1])
        elif term[0] == "name":
            stretch = book[term[1]]
        else:
            stretch = stretch_of(
                term[0], self.show(term[1], path + (0,), book), self.show(term[2], path + (1,), book))
        if stretch is None:
            raise Ended
        self.noted.append((path,) + stretch)
        has = met(stretch, WIDE)
        if has is None:
            raise Ended
        return has


def second_shown(program, paper):
    """What the second reader notes, or None where it refuses."""
    try:
        return sorted(SecondReader(program, paper).noted)
    except Refused:
        return None


def up(ins=(("a", 0, 9),), most=20, asked=("less", I, A), step=1, start=0):
    """Counts i from the start by the step, as long as it is asked."""
    return (ins, (("set", "i", num(start)), ("while", asked, most, (stepped("i", step),)), ("set", "b", I)))


UP = up()
UP_PAPER = (((1,), (("a", 0, 9), ("i", 0, 9))),)


class ShownTest(unittest.TestCase):
    def shows(self, program, paper, rows):
        self.assertEqual(shown(program, paper), rows)
        self.assertIs(is_paper(program, paper), True)

    def test_no_whiles(self):
        self.shows(((), ()), (), [])
        self.shows(((("a", -3, 5),), (("set", "b", ("mul", A, num(2))),)), (), [
            ((0, 0), -6, 10), ((0, 0, 0), -3, 5), ((0, 0, 1), 2, 2)])

    def test_set_gives_what_is_in_the_wide_room(self):
        program = ((("a", 0, 9),), (
            ("set", "a", ("mul", ("mul", A, A), num(900))), ("set", "b", A), ("set", "a", num(1)), ("set", "b", A)))
        self.shows(program, (), [
            ((0, 0), 0, 72900), ((0, 0, 0), 0, 81), ((0, 0, 0, 0), 0, 9), ((0, 0, 0, 1), 0, 9), ((0, 0, 1), 900, 900),
            ((1, 0), 0, GREATEST), ((2, 0), 1, 1), ((3, 0), 1, 1)])

    def test_a_sum_in_a_sum_has_what_is_in_the_wide_room(self):
        program = ((("a", 0, 9),), (("set", "b", ("sub", ("mul", A, num(GREATEST)), num(1))),))
        self.shows(program, (), [
            ((0, 0), -1, GREATEST - 1), ((0, 0, 0), 0, 9 * GREATEST), ((0, 0, 0, 0), 0, 9),
            ((0, 0, 0, 1), GREATEST, GREATEST), ((0, 0, 1), 1, 1)])

    def test_nothing_is_shown_behind_what_has_nothing(self):
        keep = ("set", "c", num(1))
        self.shows(((), (("set", "b", OVER), keep)), (), [
            ((0, 0), GREATEST + 1, GREATEST + 1), ((0, 0, 0), GREATEST, GREATEST), ((0, 0, 1), 1, 1)])
        self.shows(((), (("set", "b", ("add", OVER, num(7))), keep)), (), [
            ((0, 0, 0), GREATEST + 1, GREATEST + 1), ((0, 0, 0, 0), GREATEST, GREATEST), ((0, 0, 0, 1), 1, 1)])
        self.shows(((), (("set", "b", ("add", num(7), OVER)), keep)), (), [
            ((0, 0, 0), 7, 7), ((0, 0, 1), GREATEST + 1, GREATEST + 1), ((0, 0, 1, 0), GREATEST, GREATEST),
            ((0, 0, 1, 1), 1, 1)])

    def test_a_word_without_a_stretch_is_not_noted(self):
        keep = ("set", "c", num(1))
        parts = [((0, 0, 0), 1, 1), ((0, 0, 1), 0, 0)]
        self.shows(((), (("set", "b", ZERO), keep)), (), parts)
        self.shows(((), (("if", ZERO, (keep,), (keep,)), keep)), (), parts)
        self.shows(((), (("set", "b", ("add", ZERO, num(4))), keep)), (), [
            ((0, 0, 0, 0), 1, 1), ((0, 0, 0, 1), 0, 0)])
        zero_while = ((("a", 0, 3),), (("while", ZERO, 3, (keep,)), keep))
        self.shows(zero_while, (((0,), (("a", 0, 3),)),), parts)

    def test_if(self):
        program = ((("a", -2, 9),), (
            ("if", ("less", A, num(3)), (("set", "b", A),), (("set", "b", ("add", A, num(50))),)), ("set", "c", B)))
        self.shows(program, (), [
            ((0, 0), 0, 1), ((0, 0, 0), -2, 9), ((0, 0, 1), 3, 3), ((0, 1, 0, 0), -2, 2),
            ((0, 2, 0, 0), 53, 59), ((0, 2, 0, 0, 0), 3, 9), ((0, 2, 0, 0, 1), 50, 50), ((1, 0), -2, 59)])

    def test_if_of_one_side(self):
        for n, number in ((1, 1), (-7, 1), (0, 2)):
            program = ((), (("if", num(n), (("set", "b", num(4)),), (("set", "b", num(5)),)), ("set", "c", B)))
            worth = {1: 4, 2: 5}[number]
            self.shows(program, (), [
                ((0, 0), n, n), ((0, number, 0, 0), worth, worth), ((1, 0), worth, worth)])

    def test_if_where_behind_tells_none(self):
        # The sum may be 1 or 0 by its stretch, but a name less than itself has nothing left for long.
        program = ((("a", 0, 1),), (
            ("set", "b", num(1)),
            ("if", ("less", A, A), (("set", "b", num(2)),), (("set", "b", num(3)),)), ("set", "c", B)))
        self.shows(program, (), [
            ((0, 0), 1, 1), ((1, 0), 0, 1), ((1, 0, 0), 0, 1), ((1, 0, 1), 0, 1), ((1, 2, 0, 0), 3, 3), ((2, 0), 3, 3)])

    def test_if_with_one_end(self):
        for one, other, told in (((ZERO,), (num(5),), 5), ((num(4),), (ZERO,), 4)):
            program = ((("a", 0, 1),), (
                ("if", A, (("set", "b", one[0]),), (("set", "b", other[0]),)), ("set", "c", B)))
            self.assertEqual(shown(program, ())[-1], ((1, 0), told, told))

    def test_if_without_end(self):
        program = ((("a", 0, 1),), (("if", A, (("set", "b", ZERO),), (("set", "b", OVER),)), ("set", "c", num(1))))
        self.assertEqual([row[0] for row in shown(program, ())], [
            (0, 0), (0, 1, 0, 0, 0), (0, 1, 0, 0, 1), (0, 2, 0, 0), (0, 2, 0, 0, 0), (0, 2, 0, 0, 1)])

    def test_names_that_only_one_end_knows(self):
        loop = ("while", num(0), 1, ())
        sets = (("set", "b", num(4)),)
        program = ((("a", 0, 1),), (("if", A, sets, ()), loop))
        self.assertTrue(is_paper(program, (((1,), (("a", 0, 1),)),)))
        self.assertFalse(is_paper(program, (((1,), (("a", 0, 1), ("b", 4, 4))),)))
        sure = ((("a", 1, 1),), (("if", A, sets, ()), loop))
        self.assertTrue(is_paper(sure, (((1,), (("a", 1, 1), ("b", 4, 4))),)))
        self.assertFalse(is_paper(sure, (((1,), (("a", 1, 1),)),)))

    def test_while(self):
        self.shows(UP, UP_PAPER, [
            ((0, 0), 0, 0), ((1, 0), 0, 1), ((1, 0, 0), 0, 9), ((1, 0, 1), 0, 9),
            ((1, 1, 0, 0), 1, 9), ((1, 1, 0, 0, 0), 0, 8), ((1, 1, 0, 0, 1), 1, 1), ((2, 0), 0, 9)])
        self.shows(UP, (((1,), (("a", 0, 9), ("i", -5, 20))),), [
            ((0, 0), 0, 0), ((1, 0), 0, 1), ((1, 0, 0), -5, 20), ((1, 0, 1), 0, 9),
            ((1, 1, 0, 0), -4, 9), ((1, 1, 0, 0, 0), -5, 8), ((1, 1, 0, 0, 1), 1, 1), ((2, 0), 0, 20)])

    def test_while_never_gone_round(self):
        program = up(asked=num(0))
        self.shows(program, (((1,), (("a", 0, 9), ("i", 0, 0))),), [((0, 0), 0, 0), ((1, 0), 0, 0), ((2, 0), 0, 0)])

    def test_while_never_done(self):
        program = up(asked=num(1))
        self.shows(program, (((1,), (("a", 0, 9), ("i", 0, GREATEST))),), [
            ((0, 0), 0, 0), ((1, 0), 1, 1), ((1, 1, 0, 0), 1, GREATEST + 1), ((1, 1, 0, 0, 0), 0, GREATEST),
            ((1, 1, 0, 0, 1), 1, 1)])

    def test_while_whose_block_has_no_end(self):
        program = ((("a", 0, 9),), (("while", A, 3, (("set", "b", ZERO),)), ("set", "c", A)))
        self.shows(program, (((0,), (("a", 0, 9),)),), [
            ((0, 0), 0, 9), ((0, 1, 0, 0, 0), 1, 1), ((0, 1, 0, 0, 1), 0, 0), ((1, 0), 0, 0)])

    def test_while_where_behind_tells_none(self):
        program = ((("a", 0, 1),), (("while", ("less", A, A), 3, (("set", "a", num(99)),)), ("set", "c", A)))
        self.shows(program, (((0,), (("a", 0, 1),)),), [
            ((0, 0), 0, 1), ((0, 0, 0), 0, 1), ((0, 0, 1), 0, 1), ((1, 0), 0, 1)])

    def test_what_is_set_in_a_while_is_not_known_behind(self):
        program = ((("a", 0, 1),), (
            ("while", A, 3, (("set", "b", num(3)), ("set", "a", num(0)))), ("while", num(0), 1, ())))
        self.assertTrue(is_paper(program, (((0,), (("a", 0, 1),)), ((1,), (("a", 0, 0),)))))
        self.assertFalse(is_paper(program, (((0,), (("a", 0, 1),)), ((1,), (("a", 0, 0), ("b", 3, 3))))))

    def test_told_lists_are_new_and_nothing_is_changed(self):
        kept = repr((UP, UP_PAPER))
        first = shown(UP, UP_PAPER)
        self.assertIs(type(first), list)
        before = list(first)
        first.clear()
        self.assertEqual(shown(UP, UP_PAPER), before)
        paper_for(UP)
        self.assertEqual(repr((UP, UP_PAPER)), kept)


class SpoiltTest(unittest.TestCase):
    def refused(self, program, thing):
        self.assertIs(is_paper(program, thing), False, thing)
        for reader in (shown, plan_by, name_rooms):
            with self.assertRaises(BadPaper, msg=thing):
                reader(program, thing)

    def test_stretches(self):
        def paper(a_low, a_high, i_low, i_high):
            return (((1,), (("a", a_low, a_high), ("i", i_low, i_high))),)

        for held in (paper(0, 9, 0, 9), paper(-1, 9, 0, 9), paper(0, 10, 0, 10), paper(0, 9, -1, 9),
                     paper(0, 9, 0, 99), paper(LEAST, GREATEST, LEAST, GREATEST), paper(0, 9, 0, GREATEST)):
            self.assertIs(is_paper(UP, held), True, held)
        for spoilt in (paper(1, 9, 0, 9), paper(0, 8, 0, 9), paper(0, 9, 1, 9), paper(0, 9, 0, 8), paper(0, 10, 0, 9),
                       paper(0, 9, 0, 0), paper(0, 9, 9, 0), paper(0, 9, 0, GREATEST + 1), paper(LEAST - 1, 9, 0, 9)):
            self.refused(UP, spoilt)

    def test_rows(self):
        shelf = UP_PAPER[0][1]
        for spoilt in ((), UP_PAPER + UP_PAPER, (((0,), shelf),), (((2,), shelf),), (((1, 0), shelf),), (((), shelf),),
                       (((1, 1), shelf),), (((1, 1, 0), shelf),), (((9,), shelf),), (((-1,), shelf),),
                       (((0,), ()),) + UP_PAPER, UP_PAPER + (((1, 1), shelf),), UP_PAPER + (((9,), ()),),
                       UP_PAPER + (((1,), ()),), (((1,), shelf, shelf),), ((shelf,),), ((shelf, (1,)),)):
            self.refused(UP, spoilt)
        self.refused(((), ()), (((0,), ()),))
        self.refused(((), ()), UP_PAPER)

    def test_names(self):
        for shelf in ((), (("a", 0, 9),), (("i", 0, 9),), (("a", 0, 9), ("b", 0, 9), ("i", 0, 9)),
                      (("a", 0, 9), ("i", 0, 9), ("j", 0, 0)), (("i", 0, 9), ("a", 0, 9)),
                      (("a", 0, 9), ("a", 0, 9), ("i", 0, 9)), (("a", 0, 9), ("i", 0, 9), ("i", 0, 9)),
                      (("a", 0, 9), ("j", 0, 9)), (("a", 0, 9), ("", 0, 9)), (("a", 0, 9), ("I", 0, 9)),
                      (("a", 0, 9), ("i", 0, 9, 9)), (("a", 0, 9), ("i", 0)), (("a", 0, 9), ("i",))):
            self.refused(UP, (((1,), shelf),))

    def test_rows_of_whiles_that_are_not_reached(self):
        loop = ("while", num(0), 1, ())
        for deeds in ((("if", num(0), (loop,), ()),), (("set", "b", ZERO), ("set", "b", num(1))),
                      (("while", num(0), 1, (loop,)),), (("if", num(1), (), (loop,)),)):
            program = ((), deeds)
            paper = paper_for(program)
            self.assertIs(is_paper(program, paper), True)
            for path in whiles(program):
                if path not in dict(paper):
                    self.refused(program, tuple(sorted(paper + ((path, ()),))))
        behind_zero = ((), (("set", "b", ZERO), loop))
        self.assertEqual(paper_for(behind_zero), ())
        self.refused(behind_zero, (((1,), ()),))
        self.refused(behind_zero, (((1,), (("b", 0, 0),)),))
        for asked in (num(1), ZERO, OVER):
            behind_while = ((), (("while", asked, 1, ()), loop))
            self.assertEqual(paper_for(behind_while), (((0,), ()),))
            self.refused(behind_while, (((0,), ()), ((1,), ())))

    def test_whiles_in_order(self):
        loop = ("while", num(0), 1, ())
        program = ((), (loop, ("while", num(1), 1, (loop,)), loop))
        self.assertIs(is_paper(program, (((0,), ()), ((1,), ()), ((1, 1, 0), ()))), True)
        self.refused(program, (((1,), ()), ((0,), ()), ((1, 1, 0), ())))
        self.refused(program, (((0,), ()), ((1, 1, 0), ()), ((1,), ())))
        self.refused(program, (((0,), ()), ((1,), ())))
        self.refused(program, (((1,), ()), ((1, 1, 0), ())))

    def test_lists_and_truths_are_none(self):
        for spoilt in (list(UP_PAPER), (list(UP_PAPER[0]),), (([1], UP_PAPER[0][1]),), (((1,), list(UP_PAPER[0][1])),),
                       (((1,), (["a", 0, 9], ("i", 0, 9))),), (((True,), UP_PAPER[0][1]),),
                       (((1,), (("a", False, 9), ("i", 0, 9))),), (((1,), (("a", 0, 9), ("i", False, 9))),),
                       (((1,), (("a", 0, 9), ("i", 0, None))),), (((1,), (("a", 0, 9), ("i", "0", 9))),),
                       (((1,), (("a", 0, 9), (None, 0, 9))),), (((1,), ((0, 0, 9), ("i", 0, 9))),),
                       (((None,), UP_PAPER[0][1]),), ((None, UP_PAPER[0][1]),), ((1, UP_PAPER[0][1]),),
                       (((1,), None),), (((1,), 5),), (((1,), "ai"),), ((("1",), UP_PAPER[0][1]),), (((1.0,), ()),)):
            self.refused(UP, spoilt)
        one = (((("a", 0, 1),), (("while", A, 1, (("set", "a", num(0)),)),)))
        self.assertIs(is_paper(one, (((0,), (("a", 0, 1),)),)), True)
        self.refused(one, (((False,), (("a", 0, 1),)),))
        self.refused(one, (((0,), (("a", 0, True),)),))

    def test_other_things(self):
        deep = ()
        deep_list = []
        for level in range(12):
            deep, deep_list = (deep,), [deep_list]
        for thing in (0, 1, -1, 10 ** 40, True, False, None, "", "a", "paper", [], [()], ((),), (((),),), ((), ()), (0,),
                      (None,), ("",), ("ab",), ("ab", "cd"), ((0, 0),), (((1,), ()),), deep, deep_list,
                      (((1,), deep),), ((deep, ()),), (((1,), ((deep, 0, 0),)),), (((1,), (("a", deep, deep),)),)):
            self.refused(UP, thing)

    def test_drawn_things(self):
        source = random.Random(41)
        for turn in range(3000):
            thing = drawn_thing(source, source.randrange(6))
            self.assertIs(is_paper(UP, thing), False, thing)
            with self.assertRaises(BadPaper):
                shown(UP, thing)

    def test_any_part_put_in_the_stead(self):
        source = random.Random(42)
        program = ((("a", 0, 3), ("b", -2, 2)), (
            ("while", A, 9, (
                ("while", ("less", B, num(5)), 9, (stepped("b", 1),)), ("set", "b", num(0)), stepped("a", -1))),))
        paper = paper_for(program)
        self.assertEqual(len(paper), 2)
        for path, part in parts_of(paper):
            for turn in range(40):
                thing = with_part(paper, path, drawn_thing(source, 3))
                told = is_paper(program, thing)
                self.assertIs(type(told), bool)
                if not told:
                    self.refused(program, thing)
                elif repr(thing) != repr(paper):
                    self.assertEqual(shown(program, thing), second_shown(program, thing))

    def test_bad_paper_is_a_room_error(self):
        for reader in (shown, plan_by, name_rooms):
            with self.assertRaises(RoomError):
                reader(UP, None)


def lies_within(test, program, paper):
    """Each worth reckoned in any run lies in what is shown of its spot; a quo by 0 is the one spot without a worth."""
    rows = {path: (low, high) for path, low, high in shown(program, paper)}
    terms = dict(spots(program))
    test.assertEqual([path for path in rows if path not in terms], [])
    for worths in all_worths_of(program):
        for path, worth in traced(program, worths):
            test.assertIn(path, rows, (program, paper, worths))
            test.assertTrue(rows[path][0] <= worth <= rows[path][1], (program, paper, worths, path))
        told = run(program, worths)
        if told[0] == "refused" and told[1] == "zero":
            test.assertEqual(terms[told[2]][0], "quo")


class FoundTest(unittest.TestCase):
    def holds(self, program):
        """The paper found is one; the wide one too; by both all worths that can be reckoned lie in what is shown."""
        paper = paper_for(program)
        self.assertIs(is_paper(program, paper), True, program)
        self.assertEqual(paper_for(program), paper)
        for held in (paper, wide_paper(program)):
            if is_paper(program, held):
                lies_within(self, program, held)
        return paper

    def test_whiles_that_count(self):
        self.assertEqual(self.holds(UP), UP_PAPER)
        down = ((("a", 0, 9),), (("while", A, 20, (stepped("a", -1),)),))
        self.assertEqual(self.holds(down), (((0,), (("a", 0, 9),)),))
        for step in (1, 2, 7, -1, -3):
            for asked in (("less", I, num(9)), ("less", num(-9), I), I, ("sub", num(1), ("same", I, num(8))), num(1)):
                for start in (0, 5, -5, 8):
                    self.holds(up(asked=asked, step=step, start=start))

    def test_whiles_to_the_edge_of_the_wide_room(self):
        for step in (1, -1, 5000, -5000, GREATEST, LEAST):
            for asked in (num(1), ("less", I, num(GREATEST)), ("less", num(LEAST), I), ("same", I, I)):
                self.holds(up(asked=asked, step=step, start=step))
        grows = ((("a", 2, 9),), (("while", num(1), 20, (("set", "a", ("mul", A, A)),)),))
        self.assertEqual(run(grows, (9,)), ("refused", "over", (0, 1, 0, 0)))
        self.holds(grows)
        far = up(asked=("less", I, num(30000)))
        self.assertEqual(shelf_at(self.holds(far), (1,)), {"a": (0, 9), "i": (0, 30000)})

    def test_whiles_in_whiles_and_in_ifs(self):
        inner = ("while", ("less", B, A), 9, (stepped("b", 1), ("set", "c", ("mul", A, B))))
        for deeds in (
                (("while", A, 9, (("set", "b", num(0)), inner, stepped("a", -1))),),
                (("if", ("less", A, num(2)), (("set", "b", num(0)), inner), (("set", "b", num(9)),)), ("set", "d", B)),
                (("if", A, (), (("set", "b", num(0)), inner)), ("while", A, 3, (stepped("a", -1),))),
                (("set", "b", num(-3)), ("while", ("less", B, num(3)), 9, (
                    ("if", ("same", B, A), (("while", A, 9, (stepped("a", -1),)),), ()), stepped("b", 1)))),
                (("while", A, 9, (("while", A, 9, (stepped("a", -1),)),)),)):
            program = ((("a", 0, 4),), deeds)
            self.assertEqual([row[0] for row in self.holds(program)], whiles(program))

    def test_whiles_that_are_never_reached(self):
        loop = ("while", A, 9, (stepped("a", -1),))
        for deeds in ((("if", num(0), (loop,), ()),), (("set", "b", ZERO), loop), (("set", "b", OVER), loop),
                      (("if", ("less", A, num(0)), (loop,), ()),), (("if", ("same", A, num(9)), (loop,), ()),)):
            program = ((("a", 0, 4),), deeds)
            self.assertEqual(self.holds(program), ())
        self.assertEqual(self.holds(((("a", 0, 4),), (("while", num(0), 9, (loop,)), loop))), (
            ((0,), (("a", 0, 4),)), ((1,), (("a", 0, 4),))))

    def test_names_and_whiles_that_hang_on_how_far_a_while_counts(self):
        # It counts to 30000 just: only then is b surely set, and the first block never gone through.
        far = up(asked=("less", I, num(30000)))[1][:2]
        sets = ("set", "b", num(1))
        loop = ("while", num(0), 1, ())
        for deeds in (
                (("if", ("same", I, num(30000)), (sets,), ()), loop),
                (("if", ("less", num(30000), I), (), (sets,)), loop),
                (("if", ("less", num(30000), I), (loop,), (sets,)), loop),
                (("if", ("less", num(30000), I), (), (sets,)), ("while", ("less", B, A), 9, (stepped("b", 1),)))):
            paper = self.holds(((("a", 0, 9),), far + deeds))
            self.assertEqual([row[0] for row in paper], [(1,), (3,)])
            self.assertEqual(shelf_at(paper, (1,)), {"a": (0, 9), "i": (0, 30000)})
            self.assertEqual(sorted(shelf_at(paper, (3,))), ["a", "b", "i"])

    def test_no_whiles(self):
        self.assertEqual(self.holds(((), ())), ())
        self.assertEqual(self.holds(((("a", 0, 4),), (("set", "b", A),))), ())

    def test_no_names_at_a_while(self):
        program = ((), (("while", num(1), 2, (("set", "a", num(1)),)),))
        self.assertEqual(self.holds(program), (((0,), ()),))

    def test_drawn_programs(self):
        for drawn, seed in ((drawn_program, 43), (drawn_counting, 44)):
            source = random.Random(seed)
            many = [len(self.holds(drawn(source))) for turn in range(600)]
            self.assertGreater(len([rows for rows in many if rows > 1]), 50)

    def test_no_other_spot_is_reckoned_but_one_that_is_refused_each_time(self):
        source = random.Random(45)
        refused = 0
        for turn in range(600):
            program = drawn_program(source)
            noted = [row[0] for row in shown(program, paper_for(program))]
            for worths in all_worths_of(program):
                told = run(program, worths)
                if told[0] == "refused" and told[1] == "zero" and told[2] not in noted:
                    refused += 1
                reckoned = [path for path, worth in traced(program, worths)]
                self.assertEqual([path for path in reckoned if path not in noted], [])
        self.assertGreater(refused, 10)


def shelf_at(paper, path):
    return {n: (low, high) for n, low, high in dict(paper)[path]}


class OtherPapersTest(unittest.TestCase):
    def agree(self, program, paper):
        noted = second_shown(program, paper)
        self.assertIs(is_paper(program, paper), noted is not None, (program, paper))
        if noted is not None:
            self.assertEqual(shown(program, paper), noted, (program, paper))
        return noted is not None

    def spoilt(self, source, program, paper):
        """A paper with one thing other than it was, most often an end of a stretch, by little."""
        rows = list(paper)
        draw = source.randrange(8)
        if draw == 0:
            path = source.choice([path for path, term in spots(program)] + whiles(program) + [()])
            return tuple(sorted({**dict(rows), path: source.choice(((), (("a", 0, 0),)))}.items()))
        if not rows:
            return paper
        at = source.randrange(len(rows))
        if draw == 1:
            return tuple(rows[:at] + rows[at + 1:])
        path, shelf = rows[at]
        if not shelf:
            return paper
        where = source.randrange(len(shelf))
        n, low, high = shelf[where]
        if draw == 2:
            row = ()
        else:
            low += source.choice((0, -1, 1, -20, 3))
            high += source.choice((0, -1, 1, 20, -3))
            row = ((n, low, max(low, high)),)
            if row[0][1] < LEAST or row[0][2] > GREATEST:
                row = ((n, LEAST, GREATEST),)
        rows[at] = (path, shelf[:where] + row + shelf[where + 1:])
        return tuple(rows)

    def test_drawn_papers(self):
        source = random.Random(46)
        told = {True: 0, False: 0}
        for turn in range(1200):
            program = drawn_counting(source) if turn % 2 else drawn_program(source)
            paper = paper_for(program)
            self.assertTrue(self.agree(program, paper))
            self.agree(program, wide_paper(program))
            for again in range(4):
                other = self.spoilt(source, program, paper)
                told[self.agree(program, other)] += 1
                self.agree(program, self.spoilt(source, program, other))
        self.assertGreater(min(told.values()), 800)

    def test_worths_lie_in_what_is_shown_by_whatever_paper_is_let_by(self):
        source = random.Random(47)
        many = 0
        for turn in range(400):
            program = drawn_counting(source)
            paper = paper_for(program)
            for again in range(6):
                other = self.spoilt(source, program, paper)
                if is_paper(program, other):
                    many += other != paper
                    lies_within(self, program, other)
                    paper = other
        self.assertGreater(many, 200)


if __name__ == "__main__":
    unittest.main()
