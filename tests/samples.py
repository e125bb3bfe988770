"""What several tests need: short ways to write programs, and programs and things drawn from a fixed seed."""

from smallrooms.programs import WORDS

NAMES = ("a", "b", "c", "zz")


def num(n):
    return ("num", n)


def name(n):
    return ("name", n)


def deep_sum(levels):
    made = num(1)
    for level in range(levels - 1):
        made = ("add", num(1), made)
    return made


def deep_block(levels, inner=()):
    made = inner
    for level in range(levels - 1):
        made = (("if", num(1), made, ()),)
    return made


def parts_of(thing, path=()):
    """All places in a thing of tuples, each with what stands there."""
    places = [(path, thing)]
    if isinstance(thing, tuple):
        for at, part in enumerate(thing):
            places.extend(parts_of(part, path + (at,)))
    return places


def with_part(thing, path, part):
    if not path:
        return part
    at = path[0]
    return thing[:at] + (with_part(thing[at], path[1:], part),) + thing[at + 1:]


def drawn_sum(source, known, levels):
    draw = source.randrange(10)
    if levels == 1 or draw < 4:
        if known and draw % 2 == 0:
            return name(source.choice(sorted(known)))
        return num(source.choice((-32768, -300, -3, -1, 0, 0, 1, 2, 7, 300, 32767)))
    word = source.choice(WORDS)
    return (word, drawn_sum(source, known, levels - 1), drawn_sum(source, known, levels - 1))


def drawn_block(source, known, levels, most=6):
    """A block, and the names known behind it, kept in step deed by deed."""
    deeds = []
    for at in range(source.randrange(most + 1)):
        deed, known = drawn_deed(source, known, levels)
        deeds.append(deed)
    return tuple(deeds), known


def drawn_deed(source, known, levels):
    asked = drawn_sum(source, known, source.randrange(1, 6))
    draw = source.randrange(5)
    if levels == 1 or draw < 3:
        set_name = source.choice(NAMES)
        return ("set", set_name, asked), known | {set_name}
    one, behind_one = drawn_block(source, known, levels - 1, 3)
    if draw == 3:
        other, behind_other = drawn_block(source, known, levels - 1, 3)
        return ("if", asked, one, other), behind_one & behind_other
    return ("while", asked, source.randrange(4), one), known


def drawn_program(source):
    ins = []
    for in_name in NAMES:
        if source.randrange(3) == 0:
            low = source.randrange(-9, 10)
            ins.append((in_name, low, low + source.randrange(4)))
    block, known = drawn_block(source, frozenset(row[0] for row in ins), 3)
    return (tuple(ins), block)


def drawn_worths(source, program):
    return tuple(source.randrange(low, high + 1) for in_name, low, high in program[0])


def drawn_thing(source, levels):
    if levels == 0 or source.randrange(6) == 0:
        return source.choice((
            0, 1, -1, 99, 10 ** 30, True, False, None, "", "a", "b", "abc", "num", "name",
            "set", "if", "while", "add", "quo", "\n", "\u00e4", (), []))
    parts = [drawn_thing(source, levels - 1) for at in range(source.randrange(5))]
    return parts if source.randrange(3) == 0 else tuple(parts)
