"""7.1, 7.2 and 0.2 (h): programs written, and texts read."""

import random
import re
import unittest

from samples import deep_block, deep_sum, drawn_counting, drawn_program, name, num
from smallrooms.errors import NoText, RoomError
from smallrooms.programs import WORDS, is_program
from smallrooms.texts import read, written

A, B = name("a"), name("b")

ALL_KINDS = (
    (("a", -3, 3), ("b", 0, 5)),
    (
        ("set", "c", ("quo", A, ("max", B, num(-1)))),
        ("if", ("less", A, name("c")),
            (("while", B, 5, (("set", "b", ("sub", B, num(1))),)),),
            (("set", "d", num(-32768)), ("if", A, (), ()))),
        ("while", ("same", B, num(0)), 20, ()),
    ))

ALL_KINDS_TEXT = """\
in a -3 3
in b 0 5
set c quo a max b -1
if less a c
while 5 b
set b sub b 1
end
else
set d -32768
if a
else
end
end
while 20 same b 0
end
"""


class Spoilt(Exception):
    pass


class Strict:
    """A second, other reader: it takes a text sign by sign as 7.1 has it, and nothing is written again."""

    def __init__(self, text):
        if not re.fullmatch(r"([!-~]+( [!-~]+)*\n)*", text):
            raise Spoilt
        self.words = text.replace("\n", " \n ").split(" ")[:-1] if text else []
        ins = []
        while self.next_is("in"):
            ins.append((self.word(), self.number(), self.number()))
            self.line_ends()
        self.program = (tuple(ins), self.block(1))
        if self.words or not is_program(self.program):
            raise Spoilt

    def word(self):
        if not self.words:
            raise Spoilt
        return self.words.pop(0)

    def next_is(self, *words):
        return self.word() if self.words and self.words[0] in words else None

    def line_ends(self):
        if self.word() != "\n":
            raise Spoilt

    def number(self):
        word = self.word()
        if not re.fullmatch(r"0|-?[1-9][0-9]{0,5}", word):
            raise Spoilt
        return int(word)

    def block(self, level):
        deeds = []
        while True:
            kind = self.next_is("set", "if", "while")
            if kind is None or level > 3:
                return tuple(deeds)
            deeds.append(getattr(self, "deed_" + kind)(level))

    def deed_set(self, level):
        deed = ("set", self.word(), self.term(1))
        self.line_ends()
        return deed

    def deed_if(self, level):
        asked = self.term(1)
        self.line_ends()
        one = self.block(level + 1)
        self.closed_by("else")
        other = self.block(level + 1)
        self.closed_by("end")
        return ("if", asked, one, other)

    def deed_while(self, level):
        most = self.number()
        asked = self.term(1)
        self.line_ends()
        block = self.block(level + 1)
        self.closed_by("end")
        return ("while", asked, most, block)

    def closed_by(self, word):
        if not self.next_is(word):
            raise Spoilt
        self.line_ends()

    def term(self, level):
        if level > 5:
            raise Spoilt
        word = self.next_is(*WORDS)
        if word:
            return (word, self.term(level + 1), self.term(level + 1))
        if self.words and re.fullmatch(r"[a-z]{1,2}", self.words[0]):
            return name(self.word())
        return num(self.number())


def strictly_read(text):
    try:
        return Strict(text).program
    except Spoilt:
        return None


def told_by_read(text):
    """The program told, or None of NoText; any other error is a fault."""
    try:
        return read(text)
    except NoText:
        return None


class WrittenTest(unittest.TestCase):
    def both(self, program, text):
        self.assertEqual(written(program), text)
        self.assertEqual(read(text), program)
        self.assertEqual(repr(read(text)), repr(program))
        self.assertEqual(strictly_read(text), program)

    def test_all_kinds(self):
        self.both(ALL_KINDS, ALL_KINDS_TEXT)

    def test_nothing(self):
        self.both(((), ()), "")

    def test_what_comes_in(self):
        self.both(((("a", -99, 99),), ()), "in a -99 99\n")
        self.both(((("a", 0, 0), ("bc", -1, 7)), ()), "in a 0 0\nin bc -1 7\n")

    def test_each_deed(self):
        self.both(((), (("set", "x", num(5)),)), "set x 5\n")
        self.both(((), (("if", num(1), (("set", "x", num(2)),), (("set", "y", num(3)),)),)),
                  "if 1\nset x 2\nelse\nset y 3\nend\n")
        self.both(((), (("while", num(1), 0, (("set", "x", num(2)),)),)), "while 0 1\nset x 2\nend\n")

    def test_blocks_in_blocks_and_empty_ones(self):
        self.both(((), (("if", num(0), (), ()),)), "if 0\nelse\nend\n")
        self.both(((), (("while", num(0), 7, ()),)), "while 7 0\nend\n")
        self.both(((), (("if", num(0), (("while", num(1), 7, (("set", "x", num(2)),)),), ()), ("while", num(3), 1, (
            ("if", num(4), (), (("set", "y", num(5)),)),)))),
            "if 0\nwhile 7 1\nset x 2\nend\nelse\nend\nwhile 1 3\nif 4\nelse\nset y 5\nend\nend\n")
        self.both(((), deep_block(3)), "if 1\nif 1\nelse\nend\nelse\nend\n")

    def test_sums(self):
        self.both(((), (("set", "x", deep_sum(5)),)), "set x add 1 add 1 add 1 add 1 1\n")
        for word in WORDS:
            self.both(((("a", 0, 1),), (("set", "x", (word, ("sub", A, num(-2)), (word, num(3), A))),)),
                      f"in a 0 1\nset x {word} sub a -2 {word} 3 a\n")

    def test_numbers(self):
        for n in (0, 1, -1, 9, 10, -10, 32767, -32768, 100, -999):
            self.both(((), (("set", "x", num(n)),)), f"set x {n}\n")

    def test_names_like_the_words_of_lines(self):
        self.both(((("if", 0, 1), ("in", 0, 1)), (("set", "in", name("if")), ("if", name("in"), (), ()))),
                  "in if 0 1\nin in 0 1\nset in if\nif in\nelse\nend\n")

    def test_beyond_the_bounds(self):
        seven = (("set", "x", num(1)),) * 7
        self.assertEqual(written(((), seven)), "set x 1\n" * 7)
        self.assertEqual(written(((("a", -200, 200),), (("while", deep_sum(7), 30, ()),))),
                         "in a -200 200\nwhile 30 add 1 add 1 add 1 add 1 add 1 add 1 1\nend\n")

    def test_nothing_is_changed(self):
        kept = repr(ALL_KINDS)
        self.assertEqual(written(ALL_KINDS), written(ALL_KINDS))
        self.assertEqual(repr(ALL_KINDS), kept)
        self.assertIs(type(written(ALL_KINDS)), str)


class SpoiltTest(unittest.TestCase):
    def refused(self, text):
        with self.assertRaises(NoText, msg=repr(text)):
            read(text)
        self.assertIsNone(strictly_read(text), repr(text))

    def test_no_text_is_a_room_error(self):
        with self.assertRaises(RoomError):
            read("nothing\n")

    def test_blanks(self):
        for text in (" ", "\n", " \n", "\n\n", " set x 1\n", "set x 1 \n", "set  x 1\n", "set x  1\n", "set x 1\n ",
                     "set x 1\n\n", "\nset x 1\n", "set x 1\n\nset y 1\n", "set x 1\n \nset y 1\n", "setx 1\n", "set x1\n",
                     "set x add 1  2\n", " in a 0 1\n", "in a 0 1 \n", "in  a 0 1\n", "in a  0 1\n", "in a 0  1\n",
                     "if 1\n else\nend\n", "if 1\nelse \nend\n", "if 1\nelse\nend \n", "if 1\nelse\n end\n",
                     "if 1\n\nelse\nend\n", "if 1 \nelse\nend\n", "while 1  1\nend\n", "while  1 1\nend\n",
                     "set\nx 1\n", "set x\n1\n", "set x add\n1 2\n", "set x 1 set y 1\n"):
            self.refused(text)

    def test_no_line_feed_at_the_end(self):
        for text in ("set x 1", "in a 0 1", "if 1\nelse\nend", "while 1 1\nend", "set x 1\nset y 1", "end", "else", "in"):
            self.refused(text)
        self.refused(ALL_KINDS_TEXT[:-1])
        self.refused(ALL_KINDS_TEXT + "\n")

    def test_numbers(self):
        for word in ("+1", "-0", "007", "00", "01", "-01", "-", "+", "--1", "1-", "- 1", "1.0", "1e3", "1_000", "0x1", "1,",
                     "32768", "-32769", "1000000", "9" * 5000, "-" + "9" * 5000, "0" * 9999):
            self.refused(f"set x {word}\n")
            self.refused(f"in a {word} 99\n")
            self.refused(f"in a -99 {word}\n")
            self.refused(f"while {word} 1\nend\n")
            self.refused(f"set x add {word} 1\n")

    def test_other_signs(self):
        for sign in ("\t", "\r", "\x0b", "\x0c", "\u2028", "\x85", "\u0661", "\u00b2", "\u00e4", "\x00", "\u00a0"):
            self.refused(f"set x {sign}\n")
            self.refused(f"set x 1{sign}")
            self.refused(f"set x 1{sign}\n")
            self.refused(f"set{sign}x 1\n")
            self.refused(f"set x 1{sign}set y 1\n")

    def test_names(self):
        for word in ("", "X", "aB", "x1", "1x", "abc", "_", "a_", "a-", "-a", "~", "add", "max", "num", "set", "end", "while",
                     "name", "5", "-5", "x,", "(a)"):
            self.refused(f"set {word} 1\n")
            self.refused(f"in {word} 0 1\n")
            if word not in ("5", "-5"):
                self.refused(f"set y 1\nset x {word}\n")

    def test_words_of_lines(self):
        for text in ("Set x 1\n", "let x 1\n", "sets x 1\n", "x set 1\n", "set\n", "set x\n", "set 1\n", "if\n", "while\n",
                     "in\n", "in a\n", "in a 0\n", "in a 0 1 2\n", "set x 1 2\n", "set x add 1\n", "set x add\n",
                     "set x add 1 2 3\n", "set x add add 1 2\n", "set x 1 add 2\n", "set x pow 1 2\n", "set x num 1\n",
                     "if\nelse\nend\n", "if 1 2\nelse\nend\n", "while 1\nend\n", "while\nend\n", "while 1 1 1\nend\n",
                     "while a 1\nend\n", "while add 1\nend\n", "in a b 1\n", "in 0 a 1\n", "--\n", ":\n", ": 0\n"):
            self.refused(text)

    def test_else_and_end(self):
        for text in ("else\n", "end\n", "set x 1\nend\n", "set x 1\nelse\n", "if 1\n", "if 1\nend\n", "if 1\nelse\n",
                     "if 1\nend\nelse\n", "if 1\nelse\nelse\nend\n", "if 1\nelse\nend\nend\n", "while 1 1\n",
                     "while 1 1\nelse\nend\n", "while 1 1\nend\nend\n", "while 1 1\nset x 1\n", "if 1\nset x 1\nelse\nset x 1\n",
                     "if 1\nelse end\n", "if 1\nelse\nend 1\n", "if 1\nelse 1\nend\n", "while 1 1\nend end\n",
                     "if 1\nwhile 1 1\nelse\nend\nend\n"):
            self.refused(text)

    def test_in_behind_deeds(self):
        self.refused("set x 1\nin a 0 1\n")
        self.refused("if 1\nin a 0 1\nelse\nend\n")

    def test_what_is_no_program(self):
        for text in ("in b 0 1\nin a 0 1\n", "in a 0 1\nin a 0 1\n", "in a 1 0\n", "in a -100 0\n", "in a 0 100\n",
                     "in a 0 1\nin b 0 1\nin c 0 1\nin d 0 1\nin e 0 1\n", "while 21 0\nend\n", "while -1 0\nend\n",
                     "set x y\n", "set x x\n", "if a\nelse\nend\n", "if 1\nset x 1\nelse\nend\nset y x\n",
                     "while 1 1\nset x 1\nend\nset y x\n", "while 1 x\nset x 1\nend\n", "set y x\nset x 1\n"):
            self.refused(text)
        for program in (((), deep_block(4)), ((), deep_block(9)), ((), (("set", "x", deep_sum(6)),)),
                        ((), (("set", "x", num(1)),) * 7), ((), (("if", num(1), (("set", "x", num(1)),) * 7, ()),)),
                        ((), (("while", num(1), 1, deep_block(3)),)), ((), (("while", deep_sum(9), 1, ()),))):
            self.refused(written(program))

    def test_very_deep_and_very_long(self):
        for text in ("if 1\n" * 20000, "if 1\nelse\n" * 20000,
                     "while 1 1\n" * 20000, "set x " + "add " * 20000 + "1\n", "set x 1\n" * 20000,
                     "set x " + "add 1 " * 20000 + "1\n", "end\n" * 20000, "in a 0 1\n" * 20000, "\n" * 20000,
                     "if 1\n" * 9000 + "else\nend\n" * 9000, " " * 20000, "x" * 20000):
            self.assertIsNone(told_by_read(text))

    def test_a_line_left_out_told_twice_or_exchanged(self):
        lines = ALL_KINDS_TEXT.splitlines(True)
        for at in range(len(lines)):
            for rows in (lines[:at] + lines[at + 1:], lines[:at + 1] + lines[at:],
                         lines[:at] + lines[at + 1:at + 2] + lines[at:at + 1] + lines[at + 2:]):
                text = "".join(rows)
                self.assertEqual(told_by_read(text), strictly_read(text), text)
        # Without line 5 or 8 the text is the writing of another program.
        for at in (0, 1, 2, 3, 4, 6, 7, 9, 10, 11, 12, 13, 14):
            self.refused("".join(lines[:at] + lines[at + 1:]))


class DrawnTest(unittest.TestCase):
    def test_what_is_written_reads_back(self):
        source = random.Random(71)
        for turn in range(1500):
            program = drawn_counting(source) if turn % 3 == 0 else drawn_program(source)
            text = written(program)
            self.assertEqual(read(text), program)
            self.assertEqual(strictly_read(text), program)
            self.assertRegex(text, r"\A([!-~]+( [!-~]+)*\n)*\Z")

    def agree(self, text):
        told = told_by_read(text)
        self.assertEqual(told, strictly_read(text), repr(text))
        if told is not None:
            self.assertEqual(written(told), text)
        return told is not None

    def test_a_sign_put_in_taken_out_or_exchanged(self):
        source = random.Random(72)
        told = {True: 0, False: 0}
        for turn in range(30):
            text = written(drawn_program(source) if turn else ALL_KINDS)[:600]
            text = text[:text.rfind("\n") + 1]
            for at in range(len(text) + 1):
                signs = source.sample(" \n-+0123456789abxz:~A", 4) + [" ", "\n"]
                for other in [text[:at] + sign + text[at:] for sign in signs] + [
                        text[:at] + text[at + 1:]] + [text[:at] + sign + text[at + 1:] for sign in signs]:
                    told[self.agree(other)] += 1
        self.assertGreater(min(told.values()), 1500)

    def test_words_and_lines_exchanged(self):
        source = random.Random(73)
        told = {True: 0, False: 0}
        words = WORDS + ("set", "if", "while", "else", "end", "in", "a", "b", "zz", "0", "1", "-1", "20", "21", "32768", "")
        for turn in range(2500):
            lines = [line.split(" ") for line in written(drawn_program(source)).split("\n")]
            for times in range(source.randrange(1, 3)):
                line = source.choice(lines)
                draw = source.randrange(6)
                if draw == 0:
                    line[source.randrange(len(line))] = source.choice(words)
                elif draw == 1:
                    line.insert(source.randrange(len(line) + 1), source.choice(words))
                elif draw == 2:
                    line.pop(source.randrange(len(line)))
                    line.extend([] if line else [source.choice(words)])
                elif draw == 3:
                    lines.insert(source.randrange(len(lines)), list(line))
                elif draw == 4 and len(lines) > 1:
                    lines.remove(line)
                else:
                    lines.insert(source.randrange(len(lines)), [source.choice(words)])
            told[self.agree("\n".join(" ".join(line) for line in lines))] += 1
        self.assertGreater(min(told.values()), 150)


if __name__ == "__main__":
    unittest.main()
