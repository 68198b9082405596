"""cuts, least_pairs and room: what is cut off, what meets, and where all is on the label."""

import unittest
from random import Random

from labelhouse.clipping import cuts, least_pairs, room
from labelhouse.commands import PLAIN
from labelhouse.errors import OutOfPlace

import oracle
from samples import GREATEST, MOVABLE_WORDS, ODD_THINGS, SMALL, check_start, some_cases, some_program

WIDE = ((20, 9), ((2, 3), (1, 1)), (("A", 12), ("B", 3)))


class CutsTest(unittest.TestCase):
    def check(self, program, wanted, settings=PLAIN):
        self.assertEqual(cuts(WIDE, settings, program), wanted)

    def test_no_drawing(self):
        self.check((), ())
        self.check((("home", 99, 99), ("move", 1, 1), ("turn", 1), ("font", 1), ("scale", 2), ("ink", "flip"),
                    ("plain",)), (None,) * 7)

    def test_boxes_and_clears(self):
        for word in ("box", "clear"):
            for command, wanted in (
                ((0, 0, 20, 9), None), ((0, 0, 21, 9), 1), ((0, 0, 20, 10), 1), ((-1, 0, 2, 1), 1), ((0, -1, 1, 2), 1),
                ((19, 8, 1, 1), None), ((20, 0, 1, 1), 1), ((0, 9, 1, 1), 1), ((-5, 0, 5, 1), 1), ((99, 99, 1, 1), 1),
            ):
                self.check(((word,) + command,), (wanted,))

    def test_least_number_of_signs(self):
        self.check((("field", 0, 0, "B"), ("field", 0, 0, "A")), (None, 11))
        self.check((("field", 15, 0, "B"), ("field", 14, 0, "B"), ("field", 19, 0, "B")), (3, None, 1))
        self.check((("field", 0, 7, "B"), ("field", -1, 0, "B"), ("field", 0, -1, "B")), (1, 1, 1))
        self.check((("font", 1), ("field", 9, 8, "A"), ("field", 8, 8, "A")), (None, 12, None))
        self.check((("scale", 3), ("field", 0, 0, "A"), ("field", 2, 0, "B"), ("field", 3, 0, "B")), (None, 4, None, 3))

    def test_turned(self):
        self.check((("turn", 1), ("home", 2, 0), ("field", 0, 0, "A"), ("field", 0, 1, "A"), ("field", 2, 0, "A")),
                   (None, None, 5, 1, 4))
        self.check((("turn", 2), ("home", 5, 8), ("field", 0, 0, "A"), ("box", 0, 0, 6, 9), ("box", 0, 0, 7, 1)),
                   (None, None, 4, None, 1))
        self.check((("turn", 3), ("home", 0, 8), ("field", 0, 0, "A"), ("box", 0, 0, 9, 20), ("box", 0, 0, 10, 1)),
                   (None, None, 5, None, 1))

    def test_settings_are_those_ahead(self):
        self.check((("box", 0, 0, 1, 1), ("move", 19, 0), ("box", 0, 0, 1, 1), ("move", 1, 0), ("box", 0, 0, 1, 1)),
                   (None, None, None, None, 1))
        self.check((("box", 0, 0, 1, 1), ("plain",), ("box", 0, 0, 1, 1)), (1, None, None), (-1, 0, 0, 0, 1, "set"))

    def test_beside_the_oracle(self):
        for machine, settings, program in some_cases(21, 400):
            self.assertEqual(cuts(machine, settings, program), oracle.cuts(machine, settings, program))

    def test_refusals(self):
        check_start(self, cuts)
        self.assertEqual(cuts(machine=SMALL, settings=PLAIN, program=()), ())


class LeastPairsTest(unittest.TestCase):
    def check(self, program, wanted, first=0, last=1, settings=PLAIN):
        self.assertEqual(least_pairs(WIDE, settings, program, first, last), wanted)

    def test_boxes(self):
        self.check((("box", 0, 0, 3, 3), ("box", 2, 2, 3, 3)), ((1, 1),))
        self.check((("box", 0, 0, 3, 3), ("box", 3, 2, 3, 3)), ())
        self.check((("box", 0, 0, 3, 3), ("box", 2, 3, 3, 3)), ())

    def test_only_on_the_label(self):
        self.check((("box", -3, 0, 3, 3), ("box", -3, 0, 3, 3)), ())
        self.check((("box", -3, 0, 4, 3), ("box", -3, 0, 3, 3)), ())
        self.check((("box", -3, 0, 4, 3), ("box", -3, 0, 4, 3)), ((1, 1),))
        self.check((("field", 16, 0, "B"), ("box", 20, 0, 5, 5)), ())

    def test_field_and_box(self):
        self.check((("field", 0, 0, "A"), ("box", 5, 0, 1, 1)), ((3, 1),))
        self.check((("box", 5, 0, 1, 1), ("field", 0, 0, "A")), ((1, 3),))
        self.check((("field", 0, 0, "B"), ("box", 6, 0, 1, 1)), ())
        self.check((("field", -5, 0, "B"), ("box", 0, 0, 1, 1)), ((3, 1),))

    def test_two_fields(self):
        turned = (("field", 0, 0, "A"), ("turn", 2), ("home", 9, 2), ("field", 0, 0, "A"))
        self.check(turned, ((1, 5), (2, 4), (3, 3), (4, 2), (5, 1)), 0, 3)
        self.check((("field", 0, 0, "B"), ("field", 1, 1, "B")), ((1, 1),))
        self.check((("field", 0, 0, "B"), ("field", 4, 0, "B")), ((3, 1),))
        self.check((("field", 0, 0, "B"), ("field", 0, 3, "B")), ())

    def test_numbers_count_all_commands(self):
        program = (("move", 1, 1), ("box", 0, 0, 1, 1), ("clear", 0, 0, 9, 9), ("field", 0, 0, "A"), ("move", 0, 3),
                   ("box", 0, 0, 9, 9), ("move", 0, -1), ("box", 0, 0, 1, 1))
        self.check(program, ((1, 1),), 1, 3)
        self.check(program, (), 3, 5)
        self.check(program, ((1, 1),), 3, 7)
        self.check(program, (), 1, 7)

    def test_beside_all_pairs(self):
        for machine, settings, program in some_cases(22, 250, ("box", "field", "field", "turn", "scale", "move", "home")):
            numbers = [at for at, command in enumerate(program) if command[0] in ("box", "field")]
            for first in numbers:
                for last in numbers:
                    if first < last:
                        wanted = oracle.least_pairs(machine, settings, program, first, last)
                        self.assertEqual(least_pairs(machine, settings, program, first, last), wanted)

    def test_crossing_fields_beside_all_pairs(self):
        chance = Random(23)
        for _ in range(150):
            program = (("field", chance.randint(-3, 9), chance.randint(-2, 5), chance.choice("AB")),
                       ("turn", chance.randint(1, 3)), ("home", chance.randint(0, 19), chance.randint(0, 8)),
                       ("font", chance.randint(0, 1)), ("scale", chance.randint(1, 3)), ("field", 0, 0, "A"))
            wanted = oracle.least_pairs(WIDE, PLAIN, program, 0, 5)
            self.assertEqual(least_pairs(WIDE, PLAIN, program, 0, 5), wanted)

    def test_refusals(self):
        check_start(self, least_pairs, 0, 1, odd_rest=(None, None))
        program = (("box", 0, 0, 1, 1), ("clear", 0, 0, 1, 1), ("turn", 0), ("field", 0, 0, "A"), ("box", 0, 0, 1, 1))
        for first, last in (
            (0, 0), (3, 0), (4, 3), (3, 3), (0, 1), (0, 2), (1, 3), (2, 3), (1, 2), (-2, 4), (0, -1), (-5, 3), (0, 5),
            (5, 6), (-2, -1), (-1, 3), (-1, 4), (-1, 0),
        ):
            with self.assertRaises(OutOfPlace):
                least_pairs(SMALL, PLAIN, program, first, last)
        for thing in ODD_THINGS:
            with self.assertRaises(OutOfPlace):
                least_pairs(SMALL, PLAIN, program, thing, 4)
            with self.assertRaises(OutOfPlace):
                least_pairs(SMALL, PLAIN, program, 0, thing)
        with self.assertRaises(OutOfPlace):
            least_pairs(SMALL, PLAIN, (), 0, 1)
        self.assertEqual(least_pairs(machine=SMALL, settings=PLAIN, program=program, first=0, last=4), ((1, 1),))


class RoomTest(unittest.TestCase):
    def check(self, program, wanted, settings=PLAIN):
        self.assertEqual(room(WIDE, settings, program), wanted)

    def test_one_box(self):
        self.check((("box", 0, 0, 1, 1),), (0, 0, 19, 8))
        self.check((("box", 0, 0, 20, 9),), (0, 0, 0, 0))
        self.check((("box", 3, 2, 4, 5),), (-3, -2, 13, 2))
        self.check((("clear", 3, 2, 4, 5),), (-3, -2, 13, 2))
        self.check((("box", 0, 0, 21, 1),), None)
        self.check((("box", 0, 0, 1, 10),), None)

    def test_the_origin_told_does_not_count(self):
        for x, y in ((5, 5), (-100, 10 ** 900)):
            self.check((("box", 3, 2, 4, 5),), (-3, -2, 13, 2), settings=(x, y, 0, 0, 1, "set"))

    def test_the_other_settings_do(self):
        self.check((("box", 3, 2, 4, 5),), (6, -3, 21, 2), settings=(0, 0, 1, 0, 1, "set"))
        self.check((("box", 3, 2, 4, 5),), (6, 6, 22, 10), settings=(0, 0, 2, 0, 1, "set"))
        self.check((("box", 3, 2, 4, 5),), (-2, 6, 13, 11), settings=(0, 0, 3, 0, 1, "set"))
        self.check((("field", 0, 0, "B"),), (0, 0, 14, 6))
        self.check((("field", 0, 0, "B"),), (0, 0, 8, 3), settings=(0, 0, 0, 0, 2, "flip"))
        self.check((("field", 0, 0, "B"),), (0, 0, 17, 8), settings=(0, 0, 0, 1, 1, "set"))

    def test_all_signs_of_a_field_count(self):
        self.check((("field", 0, 0, "A"),), None)
        self.check((("font", 1), ("field", 0, 0, "A"),), (0, 0, 8, 8))

    def test_several(self):
        self.check((("box", 0, 0, 5, 2), ("move", 3, 4), ("clear", -6, 0, 2, 2)), (3, 0, 15, 3))
        self.check((("box", 0, 0, 15, 1), ("move", 10, 0), ("box", 0, 0, 15, 1)), None)
        self.check((("box", 0, 0, 1, 5), ("move", 0, 5), ("box", 0, 0, 1, 5)), None)
        self.check((("move", 1000000, -1000000), ("box", 0, 0, 2, 2)), (-1000000, 1000000, -999982, 1000007))

    def test_beside_trying_origins(self):
        found = {True: 0, False: 0}
        for machine, settings, program in some_cases(24, 200, MOVABLE_WORDS, 5):
            if any(oracle.draws(command) for command in program):
                wanted = oracle.room(machine, settings, program, 24)
                found[wanted is None] += 1
                self.assertEqual(room(machine, settings, program), wanted)
        self.assertGreater(min(found.values()), 15)

    def test_refusals(self):
        check_start(self, room)
        box = ("box", 0, 0, 1, 1)
        for program in (
            (), (("move", 1, 1),), (box, ("home", 0, 0)), (("home", 0, 0), box), (("plain",), box), (box, ("plain",)),
            (("turn", 1), ("font", 0), ("scale", 2), ("ink", "flip")), (("plain",),), (("home", 1, 1),),
        ):
            with self.assertRaises(OutOfPlace):
                room(SMALL, PLAIN, program)
        for command in (box, ("clear", 0, 0, 1, 1), ("field", 0, 0, "C")):
            self.assertIsNotNone(room(machine=SMALL, settings=PLAIN, program=(command,)))


class GreatestMachineTest(unittest.TestCase):
    def test_answers(self):
        program = some_program(Random(25), GREATEST, 60, ("field",) * 7 + ("box", "turn", "font", "scale", "move"))
        start = (20, 20, 0, 0, 1, "set")
        self.assertEqual(cuts(GREATEST, start, program), oracle.cuts(GREATEST, start, program))
        numbers = [at for at, command in enumerate(program) if command[0] in ("box", "field")]
        for last in numbers[1::9]:
            wanted = oracle.least_pairs(GREATEST, start, program, numbers[0], last)
            self.assertEqual(least_pairs(GREATEST, start, program, numbers[0], last), wanted)
        self.assertIsNone(room(GREATEST, start, program))
        self.assertEqual(room(GREATEST, start, (("box", 0, 0, 1, 1),) * 60), (0, 0, 39, 39))


if __name__ == "__main__":
    unittest.main()
