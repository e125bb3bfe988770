"""Traces, which go through a run forth and back, and their texts."""

from smallrooms.errors import NoStep, NoText, NoWorths
from smallrooms.programs import is_whole_from, spots
from smallrooms.running import run, traced
from smallrooms.texts import number_from, read, written

# The line between a program and what its trace tells; no line of a program has these signs.
DIVIDER = "--\n"


# The rows are all that are reckoned, passed or not, and stay as they are; done is how many of them are passed.
class Trace:
    def __init__(self, program, worths):
        self.program = program
        self.worths = worths
        self.rows = traced(program, worths)
        self.done = 0

    def go(self):
        if self.done == len(self.rows):
            raise NoStep("no row is left")
        self.done = self.done + 1
        return self.rows[self.done - 1]

    def back(self):
        if self.done == 0:
            raise NoStep("no row is passed")
        self.done = self.done - 1
        return self.rows[self.done]

    def to(self, path):
        for at in range(self.done, len(self.rows)):
            if self.rows[at][0] == path:
                self.done = at + 1
                return self.rows[at][1]
        raise NoStep("no row that is left has this path")

    def passed(self):
        return (self.done, len(self.rows) - self.done)

    # Rows that come later take the stead of earlier ones of the same path.
    def last(self, path):
        return dict(self.rows[:self.done]).get(path)

    def tally(self):
        many = {}
        for path, worth in self.rows[:self.done]:
            many[path] = many.get(path, 0) + 1
        return sorted(many.items())

    def unseen(self):
        seen = dict(self.rows[:self.done])
        return [path for path, term in spots(self.program) if path not in seen]

    def outcome(self):
        return run(self.program, self.worths)

    def ground(self):
        return (self.program, self.worths)

    def twin(self):
        other = Trace(self.program, self.worths)
        other.done = self.done
        return other


def trace_text(trace):
    words = [str(worth) for worth in trace.worths] + [":", str(trace.done)]
    return written(trace.program) + DIVIDER + " ".join(words) + "\n"


# What is read loosely is written again, so no text but a writing is read.
def read_trace(text):
    if not isinstance(text, str):
        raise NoText("this is no text")
    parts = text.partition(DIVIDER)
    trace = trace_from(read(parts[0]), parts[2][:-1].split(" "))
    if trace_text(trace) != text:
        raise NoText("this is not the writing of a trace")
    return trace


def trace_from(program, words):
    worths = tuple([number_from(word) for word in words[:-2]])
    done = number_from(words[-1])
    trace = trace_or_no_text(program, worths)
    if not is_whole_from(done, 0, len(trace.rows)):
        raise NoText("so many rows can not be passed")
    trace.done = done
    return trace


def trace_or_no_text(program, worths):
    try:
        return Trace(program, worths)
    except NoWorths:
        raise NoText("these worths can not come in") from None
