"""0.2, (a) to (j), and 0.3, once more over the whole: drawn programs and all worths that can come in."""

import inspect
import itertools
import random
import unittest

from samples import (
    all_worths_of, come_to_the_same, drawn_counting, drawn_program, drawn_sum, drawn_thing, no_papers, papers_of)
from smallrooms import (
    errors, measuring, naming, papers, peeling, plans, programs, running, shelves, simpler, stretches, texts, traces, trying)

INTERFACE = {
    programs: {"is_program": 1, "spots": 1, "whiles": 1},
    running: {"run": 2, "traced": 2},
    stretches: {"joined": 2, "met": 2, "stretch_of": 3, "is_within": 2},
    shelves: {"reckoned_from": 2, "behind": 3},
    papers: {"paper_for": 1, "shown": 2, "is_paper": 2},
    plans: {"room_of": 1, "wrapped": 2, "plan_by": 2, "many_marks": 1, "run_narrow": 3, "name_rooms": 2, "is_plan": 2},
    simpler: {"simpler": 2},
    texts: {"written": 1, "read": 1},
    trying: {"all_worths": 1, "exact": 1, "refusals": 1, "witness": 3, "full_plan": 1, "bare_plan": 2,
             "joined_plans": 3, "parted": 3},
    peeling: {"peeled": 2},
    naming: {"names_in": 1, "set_at": 2, "used_at": 2, "exchanged": 3},
    measuring: {"words_in": 1, "deeds_in": 1, "depths": 1},
    traces: {"Trace": 2, "trace_text": 1, "read_trace": 1},
}

METHODS = {"go": 0, "back": 0, "to": 1, "passed": 0, "last": 1, "tally": 0, "unseen": 0, "outcome": 0, "ground": 0, "twin": 0}

WORTHS = {
    "add": lambda one, other: one + other, "sub": lambda one, other: one - other, "mul": lambda one, other: one * other,
    "quo": lambda one, other: one // other, "less": lambda one, other: int(one < other),
    "same": lambda one, other: int(one == other), "min": min, "max": max,
}


def worth_of(term, names):
    """The worth of a sum, or None where it is refused."""
    if term[0] == "num":
        return term[1]
    if term[0] == "name":
        return names[term[1]]
    one, other = worth_of(term[1], names), worth_of(term[2], names)
    if one is None or other is None or (term[0] == "quo" and other == 0):
        return None
    worth = WORTHS[term[0]](one, other)
    return worth if -32768 <= worth <= 32767 else None


def drawn_stretch(source, most=7):
    low = source.randrange(-9, 10)
    return (low, low + source.randrange(most))


class InterfaceTest(unittest.TestCase):
    def test_all_names_are_there(self):
        for module, names in INTERFACE.items():
            for word, many in names.items():
                thing = getattr(module, word)
                self.assertEqual(thing.__module__, module.__name__)
                self.assertEqual(len(inspect.signature(thing).parameters), many, word)

    def test_methods(self):
        trace = traces.Trace(((), ()), ())
        for word, many in METHODS.items():
            self.assertEqual(len(inspect.signature(getattr(trace, word)).parameters), many, word)

    def test_refusals_stand_under_room_error_none_under_another(self):
        refusals = [getattr(errors, word) for word in ("NoProgram", "NoWorths", "BadPaper", "BadPlan", "NoText", "NoStep")]
        self.assertTrue(issubclass(errors.RoomError, ValueError))
        for one, other in itertools.permutations(refusals, 2):
            self.assertTrue(issubclass(one, errors.RoomError))
            self.assertFalse(issubclass(one, other))


class WholeTest(unittest.TestCase):
    many = 150

    def drawn(self, seed):
        """Drawn programs, each with some papers and all worths that can come in."""
        source = random.Random(seed)
        for turn in range(self.many):
            program = drawn_counting(source) if turn % 2 else drawn_program(source)
            self.assertIs(programs.is_program(program), True)
            yield program, papers_of(source, program), all_worths_of(program)

    def test_a_stretches_of_words(self):
        source = random.Random(201)
        for turn in range(400):
            one, other = drawn_stretch(source), drawn_stretch(source)
            for word in programs.WORDS:
                told = stretches.stretch_of(word, one, other)
                come = [WORTHS[word](x, y) for x in range(one[0], one[1] + 1) for y in range(other[0], other[1] + 1)
                        if word != "quo" or y != 0]
                self.assertEqual(told, (min(come), max(come)) if come else None)

    def test_b_what_is_known_behind_a_question(self):
        source = random.Random(202)
        for turn in range(1500):
            book = {n: drawn_stretch(source, 5) for n in ("a", "b")}
            term = drawn_sum(source, ("a", "b"), source.randrange(1, 4))
            left = {is_so: shelves.behind(term, book, is_so) for is_so in (True, False)}
            for worths in itertools.product(*[range(low, high + 1) for low, high in book.values()]):
                names = dict(zip(book, worths))
                worth = worth_of(term, names)
                if worth is not None:
                    behind = left[worth != 0]
                    self.assertIsNotNone(behind, (term, book, names))
                    for n in names:
                        self.assertTrue(behind[n][0] <= names[n] <= behind[n][1], (term, book, names))

    def test_c_worths_lie_in_what_is_shown(self):
        for program, some_papers, all_worths in self.drawn(203):
            for paper in some_papers:
                rows = {path: (low, high) for path, low, high in papers.shown(program, paper)}
                for worths in all_worths:
                    for path, worth in running.traced(program, worths):
                        self.assertTrue(rows[path][0] <= worth <= rows[path][1])
                    told = running.run(program, worths)
                    if told[0] == "refused" and told[1] != "long" and told[2] not in rows:
                        # Only a quo by 0 alone is reckoned and not shown.
                        self.assertEqual(told[1], "zero")
                        self.assertEqual(rows[told[2] + (1,)], (0, 0))

    def test_d_runs_by_plans(self):
        for program, some_papers, all_worths in self.drawn(204):
            for paper in some_papers:
                plan = plans.plan_by(program, paper)
                self.assertIs(plans.is_plan(program, plan), True)
                marks = {path: marks for path, bits, marks in plan}
                for worths in all_worths:
                    told = running.run(program, worths)
                    self.assertEqual(plans.run_narrow(program, plan, worths), told)
                    if told[0] == "refused" and told[1] != "long":
                        self.assertIn(told[1], marks.get(told[2], ("over", "zero")))

    def test_e_names_have_room(self):
        for program, some_papers, all_worths in self.drawn(205):
            for paper in some_papers:
                rooms = {n: plans.room_of(bits) for n, bits in plans.name_rooms(program, paper)}
                for worths in all_worths:
                    told = running.run(program, worths)
                    held = list(told[1]) if told[0] == "told" else []
                    # What is set at a deed is the worth of its sum.
                    for path, worth in running.traced(program, worths):
                        for n in naming.names_in(program):
                            if path[:-1] in naming.set_at(program, n) and path[-1] == 0 and told[-1] != path:
                                held.append((n, worth))
                    held += [(row[0], worth) for row, worth in zip(program[0], worths)]
                    for n, worth in held:
                        self.assertTrue(rooms[n][0] <= worth <= rooms[n][1], (program, n, worth))

    def test_f_simpler_programs(self):
        for program, some_papers, all_worths in self.drawn(206):
            for paper in some_papers:
                told = simpler.simpler(program, paper)
                for worths in all_worths:
                    self.assertTrue(come_to_the_same(running.run(program, worths), running.run(told, worths)))

    def test_g_marks_and_parts(self):
        for program, some_papers, all_worths in self.drawn(207):
            refusals = [running.run(program, worths) for worths in all_worths]
            for plan in [trying.full_plan(program)] + [plans.plan_by(program, paper) for paper in some_papers]:
                bare = trying.bare_plan(program, plan)
                for path, bits, marks in bare:
                    for mark in marks:
                        self.assertIn(("refused", mark, path), refusals)
                for worths in all_worths:
                    self.assertEqual(plans.run_narrow(program, bare, worths), running.run(program, worths))
            for n, low, high in program[0]:
                parts = [part for part in trying.parted(program, n, (low + high) // 2) if part is not None]
                some_plans = [plans.plan_by(part, papers.paper_for(part)) for part in parts]
                plan = trying.joined_plans(program, some_plans[0], some_plans[-1])
                for worths in all_worths:
                    self.assertEqual(plans.run_narrow(program, plan, worths), running.run(program, worths))

    def test_h_texts(self):
        source = random.Random(208)
        for program, some_papers, all_worths in self.drawn(209):
            text = texts.written(program)
            self.assertEqual(texts.read(text), program)
            trace = traces.Trace(program, source.choice(all_worths))
            for times in range(source.randrange(1 + min(9, sum(trace.passed())))):
                trace.go()
            trace_text = traces.trace_text(trace)
            told = traces.read_trace(trace_text)
            self.assertEqual((told.ground(), told.passed()), (trace.ground(), trace.passed()))
            for spoilt in (text + " ", " " + text, text + "\n", text[:-1] + " \n", text.replace(" ", "  ", 1) + "x"):
                with self.assertRaises(errors.NoText):
                    texts.read(spoilt)
            for spoilt in (text, trace_text + " ", " " + trace_text, trace_text[:-1], trace_text + trace_text):
                with self.assertRaises(errors.NoText):
                    traces.read_trace(spoilt)

    def test_i_names_exchanged(self):
        source = random.Random(210)
        for program, some_papers, all_worths in self.drawn(211):
            one, other = source.choice(("a", "b", "c", "zz")), source.choice(("a", "b", "c", "x"))
            told = naming.exchanged(program, one, other)
            names = {one: other, other: one}
            rows = [names.get(row[0], row[0]) for row in program[0]]
            for worths in all_worths:
                others = tuple(worth for n, worth in sorted(zip(rows, worths)))
                came = running.run(program, worths)
                if came[0] == "told":
                    came = ("told", tuple(sorted((names.get(n, n), worth) for n, worth in came[1])))
                self.assertEqual(running.run(told, others), came)

    def test_j_traces(self):
        for program, some_papers, all_worths in self.drawn(212):
            for worths in all_worths[:12]:
                rows = running.traced(program, worths)
                trace = traces.Trace(program, worths)
                self.assertEqual([trace.go() for row in rows], rows)
                self.assertEqual([trace.back() for row in rows], rows[::-1])
                self.assertEqual(trace.outcome(), running.run(program, worths))

    def test_peeled_programs(self):
        for program, some_papers, all_worths in self.drawn(213):
            for path in programs.whiles(program):
                told = peeling.peeled(program, path)
                for worths in all_worths:
                    self.assertTrue(come_to_the_same(running.run(program, worths), running.run(told, worths)))

    def test_what_is_handed_in_is_not_changed(self):
        for program, some_papers, all_worths in self.drawn(214):
            kept = repr((program, some_papers, all_worths))
            for told in (programs.spots, programs.whiles, papers.paper_for, texts.written, trying.all_worths, trying.exact,
                         trying.refusals, trying.full_plan, naming.names_in, measuring.words_in, measuring.depths):
                self.assertEqual(told(program), told(program))
            for told in (papers.shown, plans.plan_by, plans.name_rooms, simpler.simpler):
                self.assertEqual(told(program, some_papers[0]), told(program, some_papers[0]))
            self.assertEqual(repr((program, some_papers, all_worths)), kept)

    def test_any_thing_as_a_paper_a_plan_and_a_text(self):
        source = random.Random(215)
        program = ((("a", 0, 3),), (("while", ("name", "a"), 3, (("set", "a", ("num", 0)),)),))
        for thing in no_papers() + tuple(drawn_thing(source, source.randrange(6)) for turn in range(300)):
            self.assertIs(papers.is_paper(program, thing), False)
            for told in (papers.shown, plans.plan_by, plans.name_rooms, simpler.simpler):
                with self.assertRaises(errors.BadPaper):
                    told(program, thing)
            with self.assertRaises(errors.NoText):
                traces.read_trace(thing)
            if thing != ():
                self.assertIs(plans.is_plan(program, thing), False)
                with self.assertRaises(errors.BadPlan):
                    plans.run_narrow(program, thing, (0,))


if __name__ == "__main__":
    unittest.main()
