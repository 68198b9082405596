"""Machines, programs and wrong things for the tests; chance is seeded, so each run is the same."""

from random import Random

from labelhouse.errors import BadMachine, BadProgram, OutOfPlace

import oracle

PLAIN = oracle.PLAIN

# A machine small enough to go over all looks, and fonts small enough for fields to stand one over the other.
SMALL = ((4, 3), ((1, 1), (2, 1)), (("A", 2), ("C", 1)))
BARE = ((2, 2), ((3, 2),), ())
GREATEST = ((40, 40), ((8, 8), (8, 8), (8, 8)), tuple((name, 12) for name in "ABCDEFGH"))

# Things of many kinds; none of them is an integer, a string of one letter or a tuple that stands anywhere.
ODD_THINGS = (
    None, True, False, 1.0, 0.0, 2.5, float("nan"), "", "1", "#", "set ", "Set", "AB", b"A", b"set", [], [1], [1, 1], {},
    {"A": 1}, set(), {1}, object(), len, int, (), (1,), (None,), ((),), ("A",), range(2), 10 ** 900, -10 ** 900,
)

MACHINE_FAULTS = (
    (None, "form"), ((), "form"), (list(SMALL), "form"), (SMALL[:2], "form"), (SMALL + ((),), "form"),
    ((4, ((1, 1),), ()), "size"), (((0, 3), (), None), "size"), (((4, 3), (), None), "fonts"),
    (((4, 3), ((1, 1),), None), "fields"),
)


def put(row, at, thing):
    """A tuple with another thing at one place."""
    return row[:at] + (thing,) + row[at + 1:]


def some_settings(chance, machine):
    return (
        chance.randint(-3, 5), chance.randint(-3, 5), chance.randint(0, 3), chance.randrange(len(machine[1])),
        chance.randint(1, 3), chance.choice(("set", "flip")),
    )


def some_command(chance, machine, words):
    word = chance.choice(words)
    x, y = chance.randint(-3, 3), chance.randint(-3, 3)
    if word in ("home", "move"):
        return (word, x, y)
    if word in ("box", "clear"):
        return (word, x, y, chance.randint(1, 4), chance.randint(1, 4))
    if word == "field":
        return (word, x, y, chance.choice(machine[2])[0])
    return {
        "turn": ("turn", chance.randint(0, 3)),
        "font": ("font", chance.randrange(len(machine[1]))),
        "scale": ("scale", chance.randint(1, 3)),
        "ink": ("ink", chance.choice(("set", "flip"))),
        "plain": ("plain",),
    }[word]


WORDS = ("home", "move", "turn", "font", "scale", "ink", "plain", "box", "clear", "field")
# Many fields and inks and few clears: dots with long lists.
DOT_WORDS = ("field",) * 8 + ("ink",) * 4 + ("box", "box", "clear", "font", "scale", "move", "turn")
MOVABLE_WORDS = ("move", "turn", "font", "scale", "ink", "box", "clear", "field", "field")


def some_program(chance, machine, many, words=WORDS):
    if not machine[2]:
        words = tuple(word for word in words if word != "field")
    return tuple(some_command(chance, machine, words) for _ in range(many))


def some_machine(chance):
    fonts = tuple((chance.randint(1, 3), chance.randint(1, 3)) for _ in range(chance.randint(1, 3)))
    names = sorted(chance.sample("ABCDEFGH", chance.randint(0, 3)))
    fields = tuple((name, chance.randint(1, 3)) for name in names)
    return ((chance.randint(1, 7), chance.randint(1, 7)), fonts, fields)


def some_look(chance, machine):
    empty = oracle.look_of(machine, set())
    return tuple(
        (name, font, tuple("".join(chance.choice("#.") for _ in row) for row in rows)) for name, font, rows in empty
    )


def some_cases(seed, many, words=WORDS, longest=9):
    """So many triples of a machine, settings and a program."""
    chance = Random(seed)
    for _ in range(many):
        machine = some_machine(chance)
        program = some_program(chance, machine, chance.randint(0, longest), words)
        yield machine, some_settings(chance, machine), program


def small_cases(seed, many, longest=10):
    """So many pairs of settings and a program, of the machine SMALL, with much in few dots."""
    chance = Random(seed)
    for _ in range(many):
        settings = (chance.randint(-1, 1), chance.randint(-1, 1), 0, chance.randint(0, 1), 1, "set")
        yield settings, some_program(chance, SMALL, chance.randint(0, longest), DOT_WORDS)


def check_start(test, call, *rest, odd_rest=()):
    """That a call refuses its machine, settings and program in this order, ahead of all the rest."""
    good = (SMALL, PLAIN, (("box", 0, 0, 1, 1), ("box", 0, 0, 1, 1)))
    call(*good, *rest)
    for machine, part in MACHINE_FAULTS:
        with test.assertRaises(BadMachine) as caught:
            call(machine, None, None, *odd_rest)
        test.assertEqual(caught.exception.part, part)
    for settings in (None, [], PLAIN[:5], PLAIN + (0,), list(PLAIN), put(PLAIN, 3, 2), put(PLAIN, 4, True)):
        with test.assertRaises(OutOfPlace):
            call(SMALL, settings, None, *odd_rest)
    for program, number in ((None, None), ([], None), (good[2] * 31, None), (("home",), 0), (good[2] + (None,), 2)):
        with test.assertRaises(BadProgram) as caught:
            call(SMALL, PLAIN, program, *odd_rest)
        test.assertEqual(caught.exception.number, number)


def put_in(program, at, command):
    return program[:at] + (command,) + program[at:]


def left_out(program, at):
    return program[:at] + program[at + 1:]


def changed(chance, machine, program, words=WORDS):
    """A program that is like another one but for a little."""
    if not machine[2]:
        words = tuple(word for word in words if word != "field")
    at = chance.randint(0, len(program))
    if at == len(program) or chance.random() < 0.3:
        return put_in(program, at, some_command(chance, machine, words))
    if chance.random() < 0.3:
        return left_out(program, at)
    if chance.random() < 0.5:
        return put_in(program, chance.randint(0, len(program)), program[at])
    return program[:at] + program[at:at + 2][::-1] + program[at + 2:]


def near(program):
    """The program with all places near to the origin, so that all origins can be tried."""
    return tuple(
        command[:1] + tuple(max(-1, min(1, place)) for place in command[1:3]) + command[3:]
        if command[0] in ("home", "move", "box", "clear", "field") else command
        for command in program
    )


# Machines of which all looks and all origins can be gone over.
TINY_MACHINES = (
    ((2, 2), ((1, 1),), (("A", 1),)), ((3, 1), ((2, 1),), (("A", 1), ("C", 1))), ((1, 2), ((1, 2), (1, 1)), (("B", 1),)),
    ((2, 1), ((2, 2),), (("A", 1),)), ((1, 1), ((1, 1), (2, 1)), (("A", 2),)), ((3, 2), ((1, 1),), ()),
)


def tiny_cases(seed, many, words=WORDS, longest=6):
    """So many triples of a machine and two programs of it that are much the same."""
    chance = Random(seed)
    for number in range(many):
        machine = TINY_MACHINES[number % len(TINY_MACHINES)]
        one = near(some_program(chance, machine, chance.randint(1, longest), words))
        yield machine, one, near(changed(chance, machine, one, words))
