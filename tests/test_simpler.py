"""6.1 and 0.2 (f): programs made simpler by what is shown."""

import random
import unittest

from samples import (
    GREATEST, all_worths_of, come_to_the_same, drawn_counting, drawn_program, drawn_thing, name, no_papers, num,
    papers_of, parts_of, stepped, wide_paper, with_part)
from smallrooms.errors import BadPaper, RoomError
from smallrooms.papers import is_paper, paper_for, shown
from smallrooms.plans import plan_by
from smallrooms.programs import is_program, spots
from smallrooms.running import run, traced
from smallrooms.simpler import simpler

A, B, C = name("a"), name("b"), name("c")
ZERO = ("quo", num(1), num(0))
OVER = ("add", num(GREATEST), num(1))
KEEP = ("set", "k", name("d"))

# What comes in to most tests: of a one worth is known, of b and d are not; b is asked about, d never is.
INS = (("a", 3, 3), ("b", -2, 2), ("d", 4, 6))


class Second:
    """What 6.1 says, by going through spots and marks as they are told: a second, other way to simpler programs."""

    def __init__(self, program, paper):
        self.noted = {path: (low, high) for path, low, high in shown(program, paper)}
        self.marks = {path: marks for path, bits, marks in plan_by(program, paper)}
        self.terms = spots(program)
        self.told = (program[0], self.block(program[1], ()))

    def paths_in(self, path):
        return [inner for inner, term in self.terms if inner[:len(path)] == path]

    def sure(self, path):
        """All worths of a sure sum, or None."""
        if all(self.marks.get(inner) == () for inner in self.paths_in(path)):
            return range(self.noted[path][0], self.noted[path][1] + 1)
        return None

    def block(self, block, path):
        return tuple(deed for at in range(len(block)) for deed in self.deeds(block[at], path + (at,)))

    def deeds(self, deed, path):
        asked = path + (0,)
        if not any(inner in self.noted for inner in self.paths_in(asked)):
            return
        sure = self.sure(asked)
        if deed[0] == "set":
            yield deed[:2] + (self.term(deed[2], asked),)
        elif deed[0] == "if":
            one, other = self.block(deed[2], path + (1,)), self.block(deed[3], path + (2,))
            if sure is not None and 0 not in sure:
                yield from one
            elif sure is not None and len(sure) == 1:
                yield from other
            else:
                yield ("if", self.term(deed[1], asked), one, other)
        elif sure is None or list(sure[:2]) != [0]:
            yield ("while", self.term(deed[1], asked), deed[2], self.block(deed[3], path + (1,)))

    def term(self, term, path):
        sure = self.sure(path)
        if sure is not None and len(sure) == 1:
            return num(sure[0])
        if term[0] in ("num", "name"):
            return term
        return (term[0],) + tuple(self.term(part, path + (at,)) for at, part in enumerate(term[1:]))


class Simpler(unittest.TestCase):
    def holds(self, program, paper):
        """Run comes to the same for all worths that can come in; run and spots take what comes."""
        told = simpler(program, paper)
        self.assertIs(type(told), tuple)
        self.assertEqual(told[0], program[0])
        spots(told)
        for worths in all_worths_of(program):
            self.assertTrue(come_to_the_same(run(program, worths), run(told, worths)), (program, paper, worths))
        return told

    def becomes(self, deeds, others, ins=INS, paper=None):
        program = (ins, deeds)
        told = self.holds(program, paper_for(program) if paper is None else paper)
        self.assertEqual(told, (ins, others))

    def sum_becomes(self, term, other, ins=INS):
        """In a set, and in a while, unless this is left out."""
        self.becomes((("set", "x", term),), (("set", "x", other),), ins)
        self.becomes((("while", term, 1, ()),), (("while", other, 1, ()),) if other != num(0) else (), ins)


class SumsTest(Simpler):
    def test_one_worth(self):
        self.sum_becomes(num(7), num(7))
        self.sum_becomes(A, num(3))
        self.sum_becomes(("add", A, num(1)), num(4))
        self.sum_becomes(("mul", B, num(0)), num(0))
        self.sum_becomes(("less", B, A), num(1))
        self.sum_becomes(("same", B, A), num(0))
        self.sum_becomes(("quo", A, num(-2)), num(-2))
        self.sum_becomes(("max", ("min", B, num(-2)), ("sub", num(-2), ("mul", B, num(0)))), num(-2))
        self.sum_becomes(num(GREATEST), num(GREATEST))

    def test_more_worths(self):
        for term in (B, ("add", B, num(1)), ("less", B, num(2)), ("quo", num(9), ("max", B, num(1)))):
            self.sum_becomes(term, term)

    def test_from_the_outside_also_within_sums_that_stay(self):
        self.sum_becomes(("add", A, B), ("add", num(3), B))
        self.sum_becomes(("add", B, ("mul", A, A)), ("add", B, num(9)))
        self.sum_becomes(("sub", ("add", B, ("less", B, A)), ("max", A, B)), ("sub", ("add", B, num(1)), num(3)))
        self.sum_becomes(
            ("add", ("add", ("add", ("add", A, A), B), A), A), ("add", ("add", ("add", num(6), B), num(3)), num(3)))

    def test_a_sum_with_a_mark_is_not_sure(self):
        quo = ("quo", num(1), B)
        over = ("mul", num(GREATEST), B)
        for marked in (quo, over):
            self.sum_becomes(marked, marked)
            # One worth alone, if any: but it may be refused.
            self.sum_becomes(("mul", marked, num(0)), ("mul", marked, num(0)))
            self.sum_becomes(("mul", marked, ("sub", A, A)), ("mul", marked, num(0)))
            self.sum_becomes(("mul", num(0), ("add", A, marked)), ("mul", num(0), ("add", num(3), marked)))
        edge = (("b", 0, 1),)
        self.sum_becomes(("quo", num(0), B), ("quo", num(0), B), edge)
        self.sum_becomes(("add", num(GREATEST), B), ("add", num(GREATEST), B), edge)
        self.sum_becomes(("quo", num(0), B), num(0), (("b", 1, 2),))

    def test_a_sum_with_a_spot_that_is_not_noted_is_not_sure(self):
        for never in (ZERO, OVER):
            self.sum_becomes(never, never)
            self.sum_becomes(("mul", num(0), never), ("mul", num(0), never))
            self.sum_becomes(("mul", A, never), ("mul", num(3), never))
            # What stands behind is never shown, and stays as it is.
            self.sum_becomes(("mul", never, A), ("mul", never, A))
            self.sum_becomes(("mul", ("add", A, never), A), ("mul", ("add", num(3), never), A))

    def test_by_what_is_known_behind_questions(self):
        ask = ("same", B, num(1))
        self.becomes((("if", ask, (("set", "x", B),), (("set", "x", B),)), ("set", "y", B)),
                     (("if", ask, (("set", "x", num(1)),), (("set", "x", B),)), ("set", "y", B)))
        self.becomes((("while", B, 3, (("set", "b", num(0)),)), ("set", "x", B)),
                     (("while", B, 3, (("set", "b", num(0)),)), ("set", "x", num(0))))


class DeedsTest(Simpler):
    def test_no_spot_is_noted(self):
        more = (KEEP, ("if", B, (KEEP,), (KEEP,)), ("while", B, 3, (KEEP,)))
        for never in (ZERO, OVER, ("add", ZERO, A)):
            stays = ("set", "x", never)
            self.becomes((KEEP, stays) + more, (KEEP, stays))
            self.becomes((KEEP, ("if", never, more, more)) + more, (KEEP, ("if", never, (), ())))
            self.becomes((KEEP, ("while", never, 3, more)) + more, (KEEP, ("while", never, 3, ())))
            self.becomes((("if", B, (stays,) + more, (KEEP,)), KEEP), (("if", B, (stays,), (KEEP,)), KEEP))
        self.becomes((("while", num(1), 3, (KEEP,)), KEEP), (("while", num(1), 3, (KEEP,)),))

    def test_blocks_that_are_not_gone_through(self):
        # Its stretch has 0 and 1, but a name less than itself has nothing left.
        ins, never = (("b", 0, 1), ("d", 4, 6)), ("less", B, B)
        self.becomes((("if", never, (KEEP,), (KEEP,)), KEEP), (("if", never, (), (KEEP,)), KEEP), ins)
        self.becomes((("while", never, 3, (KEEP,)), KEEP), (("while", never, 3, ()), KEEP), ins)

    def test_if_without_zero(self):
        for asked in (num(1), num(-7), A, ("less", B, A), ("add", B, num(3)), ("sub", B, A)):
            self.becomes((KEEP, ("if", asked, (("set", "x", A), KEEP), (KEEP,)), KEEP),
                         (KEEP, ("set", "x", num(3)), KEEP, KEEP))
            self.becomes((("if", asked, (), (KEEP,)),), ())

    def test_if_of_zero_alone(self):
        for asked in (num(0), ("less", A, B), ("mul", B, num(0)), ("sub", A, num(3))):
            self.becomes((KEEP, ("if", asked, (KEEP,), (("set", "x", A), KEEP)), KEEP),
                         (KEEP, ("set", "x", num(3)), KEEP, KEEP))
            self.becomes((("if", asked, (KEEP,), ()),), ())

    def test_ifs_in_ifs(self):
        inner = ("if", num(0), (KEEP,), (("set", "x", A),))
        self.becomes((("if", A, (inner, KEEP, inner), (KEEP,)),), (("set", "x", num(3)), KEEP, ("set", "x", num(3))))
        self.becomes((("if", B, (inner,), (inner, inner)),), (
            ("if", B, (("set", "x", num(3)),), (("set", "x", num(3)),) * 2),))
        self.becomes((("while", B, 2, (inner, ("set", "b", num(0)))),), (
            ("while", B, 2, (("set", "x", num(3)), ("set", "b", num(0)))),))

    def test_if_that_stays(self):
        for asked in (B, ("less", B, num(1)), ("max", B, num(0))):
            self.becomes((("if", asked, (KEEP,), (KEEP, KEEP)),), (("if", asked, (KEEP,), (KEEP, KEEP)),))

    def test_if_that_is_not_sure(self):
        quo = ("quo", num(4), B)
        for asked in (("max", quo, num(1)), ("min", quo, num(-9)), ("mul", num(0), quo)):
            so = (KEEP,) if asked[0] != "mul" else ()
            other = (KEEP, KEEP) if asked[0] == "mul" else ()
            self.becomes((("if", asked, (KEEP,), (KEEP, KEEP)),), (("if", asked, so, other),))

    def test_while_of_zero_alone(self):
        for asked in (num(0), ("less", A, B), ("mul", B, num(0)), ("sub", A, num(3))):
            self.becomes((KEEP, ("while", asked, 3, (KEEP,)), KEEP), (KEEP, KEEP))
            self.becomes((("if", B, (("while", asked, 0, ()),), ()),), (("if", B, (), ()),))

    def test_while_that_stays(self):
        quo = ("quo", num(4), B)
        self.becomes((("while", B, 3, (stepped("b", 1),)),), (("while", B, 3, (stepped("b", 1),)),))
        self.becomes((("while", A, 3, (KEEP,)), KEEP), (("while", num(3), 3, (KEEP,)),))
        self.becomes((("while", ("mul", num(0), quo), 3, (KEEP,)), KEEP), (("while", ("mul", num(0), quo), 3, ()), KEEP))

    def test_whiles_by_what_the_paper_tells(self):
        deeds = (("set", "c", num(0)), ("while", ("less", C, num(4)), 9, (stepped("c", 1), ("set", "x", ("less", num(-3), C)))),
                 ("set", "y", C))
        self.becomes(deeds, deeds[:1] + (
            ("while", ("less", C, num(4)), 9, (stepped("c", 1), ("set", "x", num(1)))), ("set", "y", num(4))))
        program = (INS, deeds)
        wide = wide_paper(program)
        self.assertTrue(is_paper(program, wide))
        self.assertEqual(self.holds(program, wide)[1][2], ("set", "y", C))
        self.becomes(deeds, deeds, paper=(((1,), (("a", 3, 3), ("b", -2, 2), ("c", -5, 20), ("d", 4, 6))),))

    def test_more_than_six_deeds_to_a_block(self):
        six = (KEEP,) * 6
        self.becomes((("if", A, six, ()),) * 6, six * 6)
        self.becomes((("if", B, (("if", A, six, ()), KEEP), ()),), (("if", B, six + (KEEP,), ()),))
        told = simpler((INS, (("if", A, six, ()), KEEP)), ())
        self.assertFalse(is_program(told))
        self.assertEqual(len(spots(told)), 7)

    def test_names_that_are_known_only_as_the_paper_shows(self):
        sets = ("set", "x", name("d"))
        deeds = (("if", B, (sets,), (("set", "y", ZERO), ("set", "x", num(2)))), ("set", "z", name("x")))
        told = self.holds((INS, deeds), ())
        self.assertEqual(told[1], (("if", B, (sets,), (("set", "y", ZERO),)), ("set", "z", name("x"))))
        self.assertFalse(is_program(told))
        self.assertEqual(run(told, (3, 1, 5))[0], "told")

    def test_nothing_in_it(self):
        self.becomes((), ())
        self.becomes((), (), ())


class PapersTest(unittest.TestCase):
    program = ((("a", 0, 7),), (("while", A, 9, (stepped("a", -1),)), ("set", "b", A)))

    def test_bad_paper(self):
        paper = paper_for(self.program)
        for thing in no_papers() + ((), (((0,), ()),), (((0,), (("a", 1, 7),)),), (((0,), (("a", 0, True),)),), list(paper),
                                    (((False,), (("a", 0, 7),)),), (((0,), [("a", 0, 7)]),), paper + paper):
            with self.assertRaises(BadPaper, msg=thing):
                simpler(self.program, thing)
        with self.assertRaises(RoomError):
            simpler(self.program, None)

    def test_drawn_things(self):
        source = random.Random(61)
        for turn in range(1000):
            with self.assertRaises(BadPaper):
                simpler(self.program, drawn_thing(source, source.randrange(6)))

    def test_any_part_put_in_the_stead(self):
        source = random.Random(62)
        paper = paper_for(self.program)
        refused = 0
        for path, part in parts_of(paper):
            for turn in range(30):
                thing = with_part(paper, path, drawn_thing(source, 3))
                if is_paper(self.program, thing):
                    simpler(self.program, thing)
                else:
                    refused += 1
                    with self.assertRaises(BadPaper):
                        simpler(self.program, thing)
        self.assertGreater(refused, 200)

    def test_nothing_is_changed(self):
        paper = paper_for(self.program)
        kept = repr((self.program, paper))
        self.assertEqual(simpler(self.program, paper), simpler(self.program, paper))
        self.assertEqual(repr((self.program, paper)), kept)


class DrawnTest(Simpler):
    def test_drawn_programs(self):
        source = random.Random(63)
        words, fewer = {}, 0
        for turn in range(800):
            program = drawn_counting(source) if turn % 2 else drawn_program(source)
            for paper in papers_of(source, program):
                told = self.holds(program, paper)
                self.assertEqual(told, Second(program, paper).told, (program, paper))
                fewer += told != program
            for worths in all_worths_of(program):
                told = run(program, worths)
                words[told[0] if told[0] == "told" else told[1]] = True
        self.assertEqual(sorted(words), ["long", "over", "told", "zero"])
        self.assertGreater(fewer, 600)

    def test_what_comes_is_traced_and_no_worth_is_another(self):
        source = random.Random(64)
        for turn in range(300):
            program = drawn_counting(source) if turn % 2 else drawn_program(source)
            told = simpler(program, paper_for(program))
            for worths in all_worths_of(program):
                self.assertLessEqual(len(traced(told, worths)), len(traced(program, worths)))


if __name__ == "__main__":
    unittest.main()
