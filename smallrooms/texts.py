"""Texts of programs: written, and read back.

A sum is called a term here, since Python's own sum has that name.
A text is read loosely, as what it may be the writing of. What comes of this is then asked whether it is a program, and
written again: so no text but a writing is read, however loose the reading.
"""

from smallrooms.errors import NoText
from smallrooms.programs import DEEDS, DEEPEST_BLOCK, WORDS, is_program

FIGURES = "0123456789"
MOST_FIGURES = 6


def written(program):
    lines = [f"in {name} {low} {high}" for name, low, high in program[0]] + lines_of_block(program[1])
    return "".join([line + "\n" for line in lines])


def lines_of_block(block):
    lines = []
    for deed in block:
        lines.extend(lines_of_deed(deed))
    return lines


def lines_of_deed(deed):
    if deed[0] == "set":
        return [" ".join(["set", deed[1]] + words_of_term(deed[2]))]
    if deed[0] == "if":
        first = " ".join(["if"] + words_of_term(deed[1]))
        return [first] + lines_of_block(deed[2]) + ["else"] + lines_of_block(deed[3]) + ["end"]
    first = " ".join(["while", str(deed[2])] + words_of_term(deed[1]))
    return [first] + lines_of_block(deed[3]) + ["end"]


def words_of_term(term):
    if term[0] == "num":
        return [str(term[1])]
    if term[0] == "name":
        return [term[1]]
    return [term[0]] + words_of_term(term[1]) + words_of_term(term[2])


def read(text):
    program = read_loosely(text)
    if not is_program(program) or written(program) != text:
        raise NoText("this is not the writing of a program")
    return program


# Lines are lists of words, the next one last, so that it is taken off; an empty one stands behind all.
def read_loosely(text):
    lines = [line.split(" ") for line in text.split("\n")] + [[""]]
    lines.reverse()
    ins = []
    while lines[-1][0] == "in":
        ins.append(in_from(lines.pop()))
    return (tuple(ins), block_from(lines, DEEPEST_BLOCK))


def in_from(words):
    if len(words) != 4:
        raise NoText("this tells nothing that comes in")
    return (words[1], number_from(words[2]), number_from(words[3]))


# The levels are how deep the block may be, itself counted, so that a text is gone into no deeper than that.
def block_from(lines, levels):
    if levels < 1:
        raise NoText("blocks are too deep")
    deeds = []
    while lines[-1][0] in DEEDS:
        deeds.append(deed_from(lines, levels))
    return tuple(deeds)


def deed_from(lines, levels):
    words = lines.pop()
    if len(words) < 2:
        raise NoText("a deed has no sum")
    if words[0] == "set":
        return ("set", words[1], term_from(words[2:]))
    first = block_from(lines, levels - 1)
    if words[0] == "while":
        take_word(lines, "end")
        return ("while", term_from(words[2:]), number_from(words[1]), first)
    take_word(lines, "else")
    second = block_from(lines, levels - 1)
    take_word(lines, "end")
    return ("if", term_from(words[1:]), first, second)


def take_word(lines, word):
    if lines[-1] != [word]:
        raise NoText("a block is not ended")
    lines.pop()


# From the last word to the first, each word of two terms finds them ready.
def term_from(words):
    ready = []
    for word in reversed(words):
        if word not in WORDS:
            ready.append(leaf_from(word))
        elif len(ready) < 2:
            raise NoText("a word has not its two sums")
        else:
            one = ready.pop()
            other = ready.pop()
            ready.append((word, one, other))
    if len(ready) != 1:
        raise NoText("this is not one sum")
    return ready[0]


def leaf_from(word):
    if is_number(word):
        return ("num", int(word))
    return ("name", word)


def number_from(word):
    if not is_number(word):
        raise NoText("this is no number")
    return int(word)


def is_number(word):
    figures = word[1:] if word.startswith("-") else word
    if len(figures) < 1 or len(figures) > MOST_FIGURES or not all([sign in FIGURES for sign in figures]):
        return False
    return str(int(word)) == word
