"""effect, joined, repeated, led_by, label_at and steady: a program done label after label."""

import unittest
from random import Random

from labelhouse.commands import PLAIN, printed, settings_behind
from labelhouse.errors import BadMachine, BadProgram, OutOfPlace
from labelhouse.rounds import effect, joined, label_at, led_by, repeated, steady

import oracle
from samples import (
    GREATEST, MACHINE_FAULTS, ODD_THINGS, SMALL, check_start, put, some_cases, some_look, some_program, some_settings,
)

KEPT = ("kept", 0)
NOTHING = (KEPT,) * 6
PLAIN_EFFECT = tuple(("told", setting) for setting in PLAIN)
BOX = ("box", 0, 0, 1, 1)
THREE = ((5, 4), ((1, 1), (2, 1), (1, 2)), (("A", 2), ("B", 1)))

# What has not the form of an effect.
NO_EFFECTS = ODD_THINGS + (
    (KEPT,) * 5, (KEPT,) * 7, [KEPT] * 6, put(NOTHING, 0, ["kept", 0]), put(NOTHING, 0, ("kept",)),
    put(NOTHING, 1, ("kept", 0, 0)), put(NOTHING, 0, ("Told", 0)), put(NOTHING, 0, (None, 0)), put(NOTHING, 5, None),
    put(NOTHING, 0, ("kept", True)), put(NOTHING, 0, ("told", False)), put(NOTHING, 1, ("told", 1.0)),
    put(NOTHING, 1, ("kept", None)), put(NOTHING, 1, ("told", "1")),
    put(NOTHING, 2, ("told", 4)), put(NOTHING, 2, ("told", -1)), put(NOTHING, 2, ("told", True)),
    put(NOTHING, 3, ("told", 3)), put(NOTHING, 3, ("told", -1)), put(NOTHING, 4, ("told", 0)), put(NOTHING, 4, ("told", 4)),
    put(NOTHING, 5, ("told", "Set")), put(NOTHING, 5, ("told", 0)), put(NOTHING, 5, ("kept", "set")),
) + tuple(put(NOTHING, at, ("kept", 1)) for at in range(2, 6)) + tuple(
    put(NOTHING, at, ("kept", False)) for at in range(2, 6)
)
NO_SETTINGS = ODD_THINGS + (
    PLAIN[:5], PLAIN + (0,), list(PLAIN), put(PLAIN, 0, True), put(PLAIN, 1, 0.0), put(PLAIN, 2, 4), put(PLAIN, 2, -1),
    put(PLAIN, 3, 3), put(PLAIN, 3, -1), put(PLAIN, 4, 0), put(PLAIN, 4, 4), put(PLAIN, 5, "up"), put(PLAIN, 5, None),
)


def some_effect(chance):
    """An EFFECT, also such ones as no program has."""
    worths = (
        range(-9, 10), range(-9, 10), range(4), range(3), range(1, 4), ("set", "flip"),
    )
    return tuple(
        ("told", chance.choice(worths[at])) if chance.random() < 0.4
        else ("kept", chance.randint(-9, 9) if at < 2 else 0)
        for at in range(6)
    )


def refuses(test, call, *rest):
    with test.assertRaises(OutOfPlace):
        call(*rest)


class EffectTest(unittest.TestCase):
    def test_each_command(self):
        for command, wanted in (
            (("home", 3, -4), (("told", 3), ("told", -4)) + NOTHING[2:]),
            (("move", 3, -4), (("kept", 3), ("kept", -4)) + NOTHING[2:]),
            (("turn", 2), put(NOTHING, 2, ("told", 2))), (("font", 1), put(NOTHING, 3, ("told", 1))),
            (("scale", 3), put(NOTHING, 4, ("told", 3))), (("ink", "flip"), put(NOTHING, 5, ("told", "flip"))),
            (("plain",), PLAIN_EFFECT), (BOX, NOTHING), (("clear", 1, 1, 1, 1), NOTHING), (("field", 1, 1, "A"), NOTHING),
        ):
            self.assertEqual(effect(SMALL, (command,)), wanted)

    def test_some_in_turn(self):
        self.assertEqual(effect(SMALL, ()), NOTHING)
        self.assertEqual(effect(SMALL, (("move", 1, 2), ("move", 3, -9))), (("kept", 4), ("kept", -7)) + NOTHING[2:])
        self.assertEqual(effect(SMALL, (("home", 5, 5), ("move", 3, -9)))[:2], (("told", 8), ("told", -4)))
        self.assertEqual(effect(SMALL, (("move", 3, -9), ("home", 5, 5)))[:2], (("told", 5), ("told", 5)))
        self.assertEqual(effect(SMALL, (("turn", 1), ("move", 1, 0)))[:3], (("kept", 1), KEPT, ("told", 1)))
        self.assertEqual(effect(SMALL, (("ink", "flip"), ("plain",), ("move", 2, 0))), put(PLAIN_EFFECT, 0, ("told", 2)))
        self.assertEqual(effect(SMALL, (("move", 1, 0), ("move", -1, 0))), NOTHING)

    def test_leads_where_the_program_leads(self):
        chance = Random(41)
        for machine, settings, program in some_cases(42, 200):
            told = effect(machine, program)
            for start in (settings, PLAIN, some_settings(chance, machine)):
                self.assertEqual(led_by(told, start), settings_behind(machine, start, program))

    def test_refusals(self):
        for machine, part in MACHINE_FAULTS:
            with self.assertRaises(BadMachine) as caught:
                effect(machine, None)
            self.assertEqual(caught.exception.part, part)
        for program, number in ((None, None), ((BOX,) * 61, None), ((BOX, ("turn", 4)), 1)):
            with self.assertRaises(BadProgram) as caught:
                effect(SMALL, program)
            self.assertEqual(caught.exception.number, number)
        self.assertEqual(effect(machine=SMALL, program=(BOX,)), NOTHING)


class JoinedTest(unittest.TestCase):
    def test_as_programs_are(self):
        chance = Random(43)
        for machine, _, program in some_cases(44, 200):
            other = some_program(chance, machine, chance.randint(0, 6))
            both = joined(effect(machine, program), effect(machine, other))
            self.assertEqual(both, effect(machine, program + other))

    def test_each_setting_by_itself(self):
        one = (("told", 5), ("kept", 3), ("told", 1), KEPT, ("told", 3), KEPT)
        other = (("kept", 2), ("told", 7), ("told", 3), ("told", 2), KEPT, ("told", "flip"))
        self.assertEqual(joined(one, other), (("told", 7), ("told", 7), ("told", 3), ("told", 2), ("told", 3), ("told", "flip")))
        self.assertEqual(joined(other, one), (("told", 5), ("told", 10), ("told", 1), ("told", 2), ("told", 3), ("told", "flip")))
        self.assertEqual(joined(NOTHING, one), one)
        self.assertEqual(joined(one, NOTHING), one)
        self.assertEqual(joined(one=one, other=NOTHING), one)
        big = put(NOTHING, 0, ("kept", 10 ** 900))
        self.assertEqual(joined(big, big)[0], ("kept", 2 * 10 ** 900))

    def test_refusals(self):
        for wrong in NO_EFFECTS:
            refuses(self, joined, wrong, NOTHING)
            refuses(self, joined, NOTHING, wrong)
            refuses(self, repeated, wrong, 1)
            refuses(self, led_by, wrong, PLAIN)
        for at, worths in ((2, (0, 3)), (3, (0, 1, 2)), (4, (1, 3)), (5, ("set", "flip")), (0, (-10 ** 900, 0, 10 ** 900))):
            for worth in worths:
                joined(put(NOTHING, at, ("told", worth)), NOTHING)


class RepeatedTest(unittest.TestCase):
    def test_again_and_again(self):
        chance = Random(45)
        for _ in range(100):
            value = some_effect(chance)
            wanted = NOTHING
            for times in range(6):
                self.assertEqual(repeated(value, times), wanted)
                wanted = joined(wanted, value)

    def test_as_programs_are(self):
        for machine, settings, program in some_cases(46, 60):
            for times in range(5):
                start = oracle.behind(settings, program * times)
                self.assertEqual(led_by(repeated(effect(machine, program), times), settings), start)

    def test_none_keeps_all(self):
        self.assertEqual(repeated(PLAIN_EFFECT, 0), NOTHING)
        self.assertEqual(repeated(PLAIN_EFFECT, 1), PLAIN_EFFECT)

    def test_so_many_times(self):
        value = (("kept", -3), ("told", 8), ("told", 2), KEPT, KEPT, KEPT)
        self.assertEqual(repeated(value, 10 ** 30), (("kept", -3 * 10 ** 30),) + value[1:])
        self.assertEqual(repeated(value=value, times=2)[0], ("kept", -6))

    def test_refusals(self):
        for times in ODD_THINGS + (-1, 10 ** 30 + 1, "3"):
            refuses(self, repeated, NOTHING, times)
        refuses(self, repeated, None, None)


class LedByTest(unittest.TestCase):
    def test_each_setting(self):
        start = (10, 20, 3, 2, 3, "flip")
        self.assertEqual(led_by(NOTHING, start), start)
        self.assertEqual(led_by(PLAIN_EFFECT, start), PLAIN)
        self.assertEqual(led_by((("kept", -4), ("told", 1), KEPT, ("told", 1), KEPT, ("told", "set")), start), (6, 1, 3, 1, 3, "set"))
        self.assertEqual(led_by(value=NOTHING, settings=start), start)

    def test_refusals(self):
        for wrong in NO_SETTINGS:
            refuses(self, led_by, NOTHING, wrong)
        refuses(self, led_by, None, PLAIN)
        self.assertEqual(led_by(NOTHING, (10 ** 900, -10 ** 900, 3, 2, 3, "flip"))[2:], (3, 2, 3, "flip"))


class LabelAtTest(unittest.TestCase):
    def test_beside_printing_again_and_again(self):
        chance = Random(47)
        for machine, settings, program in some_cases(48, 60):
            look = some_look(chance, machine)
            start = settings
            for number in range(6):
                self.assertEqual(label_at(machine, settings, program, look, number), oracle.picture(machine, start, program, look))
                start = oracle.behind(start, program)

    def test_far_away(self):
        machine, look = ((3, 2), ((1, 1),), ()), ()
        program = (("box", 0, 0, 2, 1), ("move", -1, 1))
        far = 10 ** 30
        start = (far, -far, 0, 0, 1, "set")
        for less, wanted in ((0, ("##.", "...")), (1, ("...", "...")), (3, ("...", "..."))):
            self.assertEqual(label_at(machine, start, program, look, far - less), wanted)
        side = (("box", 0, 0, 2, 1), ("move", -1, 0))
        for less, row in ((0, "##."), (1, ".##"), (2, "..#"), (3, "..."), (far, "...")):
            self.assertEqual(label_at(machine, (far, 0, 0, 0, 1, "set"), side, look, far - less), (row, "..."))
        # The origin comes to the label at just this number.
        self.assertEqual(label_at(machine, (-999999 * 10 ** 29, 0, 0, 0, 1, "set"), (BOX, ("move", 999999, 0)), look, 10 ** 29), ("#..", "..."))
        self.assertEqual(label_at(machine, (-999999 * 10 ** 29, 0, 0, 0, 1, "set"), (BOX, ("move", 999999, 0)), look, 10 ** 29 + 1), ("...", "..."))

    def test_refusals(self):
        look = some_look(Random(1), SMALL)
        check_start(self, label_at, look, 0, odd_rest=(None, None))
        for wrong in ODD_THINGS + (look[:1], look + look, look[::-1]):
            refuses(self, label_at, SMALL, PLAIN, (), wrong, 0)
        for wrong in ODD_THINGS + (-1, 10 ** 30 + 1):
            refuses(self, label_at, SMALL, PLAIN, (), look, wrong)
        wanted = printed(SMALL, PLAIN, (BOX,), look)
        self.assertEqual(label_at(machine=SMALL, settings=PLAIN, program=(BOX,), look=look, number=7), wanted)


def steady_by_looking(machine, settings, program, most):
    """The number from which on labels are alike, all of them being alike from most on."""
    starts = [settings]
    for _ in range(most):
        starts.append(oracle.behind(starts[-1], program))
    number = most
    while number > 0 and not oracle.unlike_dots(machine, starts[number - 1], program, starts[most], program):
        number -= 1
    return number


class SteadyTest(unittest.TestCase):
    def test_beside_looking_at_labels(self):
        chance = Random(49)
        found = {}
        words = ("move", "move", "turn", "font", "scale", "ink", "box", "clear", "field", "field", "home")
        for machine, settings, _ in some_cases(50, 500):
            machine = (
                machine[0], tuple((min(cell, 2), min(tall, 2)) for cell, tall in machine[1]),
                tuple((name, min(most, 2)) for name, most in machine[2]),
            )
            program = some_program(chance, machine, chance.randint(1, 5), words)
            wanted = steady_by_looking(machine, settings, program, 50)
            self.assertEqual(steady(machine, settings, program), wanted, (machine, settings, program))
            found[wanted] = True
        self.assertTrue(len(found) > 6, found)

    def test_by_hand(self):
        machine = ((5, 4), ((1, 1),), (("A", 1),))
        for program, wanted in (
            ((), 0), ((BOX,), 0), ((BOX, ("move", 1, 0)), 5), ((BOX, ("move", 0, 1)), 4), ((BOX, ("move", 1, 1)), 4),
            ((BOX, ("move", -1, 0)), 1), ((BOX, ("move", 2, 0)), 3), ((BOX, ("move", 9, 0)), 1),
            ((("box", -1, 0, 1, 1), ("move", 1, 0)), 6), ((("box", -1, 0, 1, 1), ("move", -1, 0)), 0),
            ((("box", -2, 0, 1, 1), ("move", 7, 0)), 0), ((("box", -2, 0, 1, 1), ("move", 6, 0)), 2),
            ((("field", 0, 0, "A"), ("move", 1, 0)), 5), ((("clear", 0, 0, 1, 1), ("move", 1, 0)), 0),
            ((BOX, ("clear", 0, 0, 1, 1), ("move", 1, 0)), 0), ((BOX, ("move", 1, 0), ("home", 0, 0)), 0),
            ((BOX, ("home", 1, 1)), 1), ((("home", 1, 1), BOX), 0), ((BOX, ("move", 1, 0), ("move", -1, 0)), 0),
            ((("box", 0, 0, 2, 1), ("turn", 1)), 1), ((BOX, ("turn", 1)), 0), ((BOX, ("scale", 2)), 0),
            ((("field", 0, 0, "A"), ("scale", 2)), 1), ((BOX, ("ink", "flip")), 0), ((BOX, BOX, ("ink", "flip")), 1),
            # Two flips of the one dot are none, from the label 1 on.
            ((BOX, BOX, ("ink", "flip"), ("move", 1, 0)), 1), ((("box", 0, -1, 1, 1), ("ink", "flip"), ("move", 1, 1)), 5),
            ((("field", -1, 0, "A"), ("field", 0, 0, "A"), ("move", 1, 0)), 6),
        ):
            self.assertEqual(steady(machine, PLAIN, program), wanted, program)
            self.assertEqual(steady_by_looking(machine, PLAIN, program, 12), wanted, program)

    def test_the_first_label_alone(self):
        machine = ((5, 4), ((1, 1),), ())
        # The label 0 is black, the others are white: the box of the label 1 on is turned away.
        self.assertEqual(steady(machine, PLAIN, (("box", 1, 0, 1, 1), ("turn", 2), ("move", -1, 0))), 1)
        self.assertEqual(steady(machine, (1, 0, 2, 0, 1, "set"), (("box", 1, 0, 1, 1), ("turn", 0), ("move", 1, 0))), 3)

    def test_white_labels_alone(self):
        # The label 0 is white as the box is turned off it, the label 1 as the box has just passed its edge.
        machine = ((5, 4), ((1, 1),), ())
        self.assertEqual(steady(machine, (3, 3, 1, 0, 1, "set"), (("box", 1, 0, 1, 1), ("turn", 0), ("move", 1, 0))), 0)
        self.assertEqual(steady(machine, (1, -1, 3, 0, 1, "set"), (("box", 1, 0, 1, 1), ("turn", 0), ("move", -3, 1))), 0)

    def test_from_far_away(self):
        machine = ((5, 4), ((1, 1),), (("A", 3),))
        far = 10 ** 900
        for start, program, wanted in (
            ((-far, 0), (BOX, ("move", 1, 0)), far + 5), ((far, 0), (BOX, ("move", -1, 0)), far + 1),
            ((far, 0), (BOX, ("move", 1, 0)), 0), ((-far, -far), (BOX, ("move", 1, 1)), far + 4),
            ((-far, -far + 9), (BOX, ("move", 1, 1)), 0), ((-far, -far + 2), (BOX, ("move", 1, 1)), far + 2),
            ((-2 * far, -far), (BOX, ("move", 2, 1)), far + 3), ((-2 * far - 1, -far), (BOX, ("move", 2, 1)), far + 3),
            ((-far, 3 * far), (("field", 0, 0, "A"), ("move", 1, -3)), far + 1),
            ((-far, 3), (("field", 0, 0, "A"), ("move", 1, 0)), far + 5), ((-far, 4), (("field", 0, 0, "A"), ("move", 1, 0)), 0),
            ((-far, 0), (("field", 0, 0, "A"), ("field", 0, 0, "A"), ("move", 1, 0)), far + 5),
        ):
            self.assertEqual(steady(machine, start + PLAIN[2:], program), wanted, (program,))
            self.assertEqual(steady(machine, start + (0, 0, 1, "flip"), program), 0 if len(program) == 3 else wanted)

    def test_seldom_on_the_label(self):
        machine = ((4, 1), ((1, 1),), ())
        self.assertEqual(steady(machine, (-7 * 10 ** 20, 0, 0, 0, 1, "set"), (BOX, ("move", 7, 0))), 10 ** 20 + 1)
        self.assertEqual(steady(machine, (-7 * 10 ** 20 - 1, 0, 0, 0, 1, "set"), (BOX, ("move", 7, 0))), 0)
        self.assertEqual(steady(machine, (-7 * 10 ** 20 - 4, 0, 0, 0, 1, "set"), (BOX, ("move", 7, 0))), 10 ** 20 + 2)

    def test_great_ones(self):
        fields = tuple(("field", k, -k, "ABCDEFGH"[k % 8]) for k in range(40))
        start = (-10 ** 6, 0, 0, 0, 3, "set")
        self.assertEqual(steady(GREATEST, start, fields + (("move", 1, 0),)), 10 ** 6 + 40)
        hidden = tuple(("clear", x, y, 40, 40) for x in range(0, 360, 40) for y in (-40, 0))
        self.assertEqual(steady(GREATEST, start, fields + hidden + (("move", 1, 0),)), 0)
        flips = fields[:20] + fields[:20][::-1] + (("move", 1, 0),)
        self.assertEqual(steady(GREATEST, put(start, 5, "flip"), flips), 0)

    def test_refusals(self):
        check_start(self, steady)
        self.assertEqual(steady(machine=SMALL, settings=PLAIN, program=(BOX,)), 0)


if __name__ == "__main__":
    unittest.main()
