"""What several tests need: short ways to write programs, and programs and things drawn from a fixed seed."""

import itertools

from smallrooms.papers import is_paper, paper_for
from smallrooms.peeling import peeled
from smallrooms.programs import WORDS, whiles
from smallrooms.simpler import simpler

LEAST, GREATEST = -32768, 32767

NAMES = ("a", "b", "c", "zz")


def num(n):
    return ("num", n)


def name(n):
    return ("name", n)


def deep_sum(levels):
    made = num(1)
    for level in range(levels - 1):
        made = ("add", num(1), made)
    return made


def deep_block(levels, inner=()):
    made = inner
    for level in range(levels - 1):
        made = (("if", num(1), made, ()),)
    return made


def parts_of(thing, path=()):
    """All places in a thing of tuples, each with what stands there."""
    places = [(path, thing)]
    if isinstance(thing, tuple):
        for at, part in enumerate(thing):
            places.extend(parts_of(part, path + (at,)))
    return places


def with_part(thing, path, part):
    if not path:
        return part
    at = path[0]
    return thing[:at] + (with_part(thing[at], path[1:], part),) + thing[at + 1:]


def drawn_sum(source, known, levels):
    draw = source.randrange(10)
    if levels == 1 or draw < 4:
        if known and draw % 2 == 0:
            return name(source.choice(sorted(known)))
        return num(source.choice((-32768, -300, -3, -1, 0, 0, 1, 2, 7, 300, 32767)))
    word = source.choice(WORDS)
    return (word, drawn_sum(source, known, levels - 1), drawn_sum(source, known, levels - 1))


def drawn_block(source, known, levels, most=6):
    """A block, and the names known behind it, kept in step deed by deed."""
    deeds = []
    for at in range(source.randrange(most + 1)):
        deed, known = drawn_deed(source, known, levels)
        deeds.append(deed)
    return tuple(deeds), known


def drawn_deed(source, known, levels):
    asked = drawn_sum(source, known, source.randrange(1, 6))
    draw = source.randrange(5)
    if levels == 1 or draw < 3:
        set_name = source.choice(NAMES)
        return ("set", set_name, asked), known | {set_name}
    one, behind_one = drawn_block(source, known, levels - 1, 3)
    if draw == 3:
        other, behind_other = drawn_block(source, known, levels - 1, 3)
        return ("if", asked, one, other), behind_one & behind_other
    return ("while", asked, source.randrange(4), one), known


def drawn_program(source):
    ins = []
    for in_name in NAMES:
        if source.randrange(3) == 0:
            low = source.randrange(-9, 10)
            ins.append((in_name, low, low + source.randrange(4)))
    block, known = drawn_block(source, frozenset(row[0] for row in ins), 3)
    return (tuple(ins), block)


def drawn_worths(source, program):
    return tuple(source.randrange(low, high + 1) for in_name, low, high in program[0])


def all_worths_of(program):
    return list(itertools.product(*[range(low, high + 1) for in_name, low, high in program[0]]))


def stepped(n, step):
    return ("set", n, ("add", name(n), num(step)))


def drawn_while(source, known, levels):
    """A while that counts a known name up or down, mostly to an end."""
    n = source.choice(sorted(known))
    step = source.choice((-7, -2, -1, -1, 1, 1, 2, 300))
    to = source.choice((-9, -1, 0, 0, 3, 8, 20, 200, 32767, -32768))
    beside = name(source.choice(sorted(known))) if source.randrange(4) == 0 else num(to)
    asked = source.choice((
        name(n), ("less", name(n), beside), ("less", beside, name(n)), ("sub", num(1), ("same", name(n), beside)),
        ("less", ("add", name(n), num(3)), beside), num(1)))
    body, behind_body = drawn_block(source, known, 1, 2)
    if levels > 2 and source.randrange(2):
        body += (drawn_while(source, behind_body, levels - 1),)
    return ("while", asked, source.randrange(8), body + (stepped(n, step),))


def drawn_counting(source):
    """A program with whiles that count, in blocks of ifs and whiles too."""
    ins = (("a", source.randrange(-9, 3), source.randrange(3, 9)),)
    if source.randrange(2):
        ins += (("b", 0, source.randrange(4)),)
    first, known = drawn_block(source, frozenset(row[0] for row in ins), 1, 2)
    deeds = first + (drawn_while(source, known, 3),)
    if source.randrange(2):
        deeds += (("if", drawn_sum(source, known, 2), (drawn_while(source, known, 2),), (stepped("a", 1),)),)
    last, known = drawn_block(source, known, 1, 2)
    return (ins, deeds + last)


def drawn_thing(source, levels):
    if levels == 0 or source.randrange(6) == 0:
        return source.choice((
            0, 1, -1, 99, 10 ** 30, True, False, None, "", "a", "b", "abc", "num", "name",
            "set", "if", "while", "add", "quo", "\n", "\u00e4", (), []))
    parts = [drawn_thing(source, levels - 1) for at in range(source.randrange(5))]
    return parts if source.randrange(3) == 0 else tuple(parts)


def wide_paper(program):
    """The paper that knows nothing of numbers at any while: its names are those found."""
    return tuple((path, tuple((n, LEAST, GREATEST) for n, low, high in shelf)) for path, shelf in paper_for(program))


def papers_of(source, program):
    """The paper found, and some that know less, as far as they are papers."""
    found = paper_for(program)
    less = tuple((path, tuple(
        (n, max(LEAST, low - source.choice((0, 0, 1, 9))), min(GREATEST, high + source.choice((0, 0, 1, 200))))
        for n, low, high in shelf)) for path, shelf in found)
    return [paper for paper in (found, less, wide_paper(program)) if is_paper(program, paper)]


def deep_things():
    """A tuple and a list, twelve deep."""
    deep, deep_list = (), []
    for level in range(12):
        deep, deep_list = (deep,), [deep_list]
    return deep, deep_list


def no_papers():
    """Things that are no papers of any program."""
    deep, deep_list = deep_things()
    return (
        0, 1, -1, True, False, None, "", "a", "paper", [], [()], ((),), ((), ()), (0,), (None,), ("",), ("ab",),
        (((99,), ()),), (((True,), ()),), (((), None),), deep, deep_list, ((deep, deep_list),))


def come_to_the_same(one, other):
    """Whether both runs come to the same worths, or are refused with the same word, wherever this is."""
    return one == other if one[0] == "told" else one[:2] == other[:2]


def drawn_beyond(source):
    """A program that may lie somewhat beyond the bounds, since it was made simpler, or its whiles were peeled."""
    program = drawn_counting(source) if source.randrange(3) == 0 else drawn_program(source)
    if source.randrange(4) == 0:
        program = simpler(program, paper_for(program))
    for again in range(source.randrange(3)):
        if whiles(program):
            program = peeled(program, source.choice(whiles(program)))
    return program


def second_walk(program):
    """All deeds and all sums of a program with their paths, by a heap of what is still to be walked through."""
    deeds, sums = [], []
    heap = [((at,), deed) for at, deed in enumerate(program[1])]
    while heap:
        path, thing = heap.pop()
        if thing[0] not in ("set", "if", "while"):
            sums.append((path, thing))
            if thing[0] not in ("num", "name"):
                heap += [(path + (at,), part) for at, part in enumerate(thing[1:])]
            continue
        deeds.append((path, thing))
        heap.append((path + (0,), thing[2 if thing[0] == "set" else 1]))
        blocks = {"set": (), "if": thing[2:], "while": thing[3:]}[thing[0]]
        heap += [(path + (number, at), deed) for number, block in enumerate(blocks, 1) for at, deed in enumerate(block)]
    return deeds, sums


class Refused(Exception):
    pass


class SecondWay:
    """A program written out as Python of its own, which is then done: a second, other way to its runs."""

    operators = {"add": "+", "sub": "-", "mul": "*", "quo": "//", "less": "<", "same": "=="}

    def __init__(self, program):
        self.lines = []
        self.block(program[1], (), "")
        self.ins = program[0]
        self.rows = []
        self.code = compile("\n".join(self.lines), "second way", "exec")

    def block(self, block, path, margin):
        self.lines.append(margin + "pass")
        for at, deed in enumerate(block):
            getattr(self, "deed_" + deed[0])(deed, path + (at,), margin)

    def deed_set(self, deed, path, margin):
        self.lines.append(f"{margin}names[{deed[1]!r}] = {self.term(deed[2], path + (0,))}")

    def deed_if(self, deed, path, margin):
        self.lines.append(f"{margin}if {self.term(deed[1], path + (0,))}:")
        self.block(deed[2], path + (1,), margin + " ")
        self.lines.append(f"{margin}else:")
        self.block(deed[3], path + (2,), margin + " ")

    def deed_while(self, deed, path, margin):
        left = "left" + "_".join(map(str, path))
        self.lines.append(f"{margin}{left} = {deed[2]}")
        self.lines.append(f"{margin}while {self.term(deed[1], path + (0,))}:")
        self.lines.append(f"{margin} if {left} == 0: raise Refused('long', {path!r})")
        self.lines.append(f"{margin} {left} -= 1")
        self.block(deed[3], path + (1,), margin + " ")

    def term(self, term, path):
        if term[0] == "num":
            return f"had({path!r}, lambda: {term[1]})"
        if term[0] == "name":
            return f"had({path!r}, lambda: names[{term[1]!r}])"
        one, other = self.term(term[1], path + (0,)), self.term(term[2], path + (1,))
        if term[0] in self.operators:
            return f"had({path!r}, lambda: int({one} {self.operators[term[0]]} {other}))"
        return f"had({path!r}, lambda: {term[0]}({one}, {other}))"

    def had(self, path, reckoned):
        try:
            comes_to = reckoned()
        except ZeroDivisionError:
            raise Refused("zero", path) from None
        self.rows.append((path, comes_to))
        if comes_to != max(LEAST, min(comes_to, GREATEST)):
            raise Refused("over", path)
        return comes_to

    def done(self, worths):
        names = {row[0]: at for row, at in zip(self.ins, worths)}
        try:
            exec(self.code, {"names": names, "had": self.had, "Refused": Refused})
        except Refused as refused:
            return ("refused",) + refused.args
        return ("told", tuple(sorted(names.items())))
