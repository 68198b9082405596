"""settings_behind and printed: commands done in turn, and the dots that they draw."""

import unittest
from random import Random

from labelhouse.commands import PLAIN, printed, settings_behind
from labelhouse.errors import BadMachine, BadProgram, OutOfPlace

import oracle
from samples import BARE, GREATEST, ODD_THINGS, SMALL, check_start, put, small_cases, some_cases, some_look

# One field of one sign, and one of two; the glyphs have no likeness to themselves when turned.
PAPER = ((6, 5), ((2, 3), (1, 1)), (("A", 1), ("B", 2)))
GLYPHS = (
    ("A", 0, ("##", "#.", "#.")), ("A", 1, ("#",)), ("B", 0, ("#..#", "....", "...#")), ("B", 1, (".#",)),
)
WHITE = ("......",) * 5


def rows(text):
    return tuple(text.split())


class SettingsBehindTest(unittest.TestCase):
    START = (3, -4, 1, 1, 2, "flip")

    def behind(self, *program):
        return settings_behind(SMALL, self.START, program)

    def test_each_command(self):
        self.assertEqual(self.behind(), self.START)
        self.assertEqual(self.behind(("home", 7, 8)), (7, 8, 1, 1, 2, "flip"))
        self.assertEqual(self.behind(("turn", 3)), (3, -4, 3, 1, 2, "flip"))
        self.assertEqual(self.behind(("font", 0)), (3, -4, 1, 0, 2, "flip"))
        self.assertEqual(self.behind(("scale", 3)), (3, -4, 1, 1, 3, "flip"))
        self.assertEqual(self.behind(("ink", "set")), (3, -4, 1, 1, 2, "set"))
        self.assertEqual(self.behind(("plain",)), (0, 0, 0, 0, 1, "set"))

    def test_move_is_added_whatever_the_turn(self):
        for turn in range(4):
            start = put(self.START, 2, turn)
            self.assertEqual(settings_behind(SMALL, start, (("move", 10, 20),)), put(put(start, 0, 13), 1, 16))

    def test_drawing_changes_nothing(self):
        for command in (("box", 1, 2, 3, 4), ("clear", 1, 2, 3, 4), ("field", 1, 2, "A")):
            self.assertEqual(self.behind(command), self.START)

    def test_in_turn(self):
        self.assertEqual(self.behind(("move", 1, 1), ("home", 5, 6), ("move", -2, 0)), (3, 6, 1, 1, 2, "flip"))
        self.assertEqual(self.behind(("plain",), ("turn", 2), ("ink", "flip")), (0, 0, 2, 0, 1, "flip"))
        self.assertEqual(self.behind(("turn", 2), ("plain",)), PLAIN)

    def test_great_origins(self):
        far = (10 ** 900, -10 ** 900, 0, 0, 1, "set")
        self.assertEqual(settings_behind(SMALL, far, (("move", 1, -1),))[:2], (10 ** 900 + 1, -10 ** 900 - 1))

    def test_beside_the_oracle(self):
        for machine, settings, program in some_cases(1, 300):
            self.assertEqual(settings_behind(machine, settings, program), oracle.behind(settings, program))

    def test_refusals(self):
        check_start(self, settings_behind)
        self.assertEqual(settings_behind(machine=SMALL, settings=PLAIN, program=()), PLAIN)


class ProgramsTest(unittest.TestCase):
    def refused(self, program, number):
        for call in (settings_behind, lambda *start: printed(*start, None)):
            with self.assertRaises(BadProgram) as caught:
                call(SMALL, PLAIN, program)
            self.assertEqual(caught.exception.number, number)

    def test_no_tuple_of_at_most_60(self):
        for thing in ODD_THINGS + ([("plain",)], "plain", {("plain",): 1}, (("plain",),) * 61, (None,) * 61):
            if not isinstance(thing, tuple) or len(thing) > 60:
                self.refused(thing, None)
        self.assertEqual(settings_behind(SMALL, PLAIN, (("move", 1, 0),) * 60)[0], 60)

    def test_first_thing_that_is_no_command(self):
        for thing in ODD_THINGS + (("box", 0, 0, 0, 1), ("field", 0, 0, "B"), ("font", 2), ["plain"], "plain", 1):
            self.refused((thing,), 0)
            self.refused((("plain",), thing, ("plain",), None), 1)
            self.refused((("plain",),) * 59 + (thing,), 59)
        self.refused(("plain",), 0)


class PrintedTest(unittest.TestCase):
    def check(self, program, picture, settings=PLAIN, look=GLYPHS):
        self.assertEqual(printed(PAPER, settings, program, look), rows(picture) if picture else WHITE)

    def test_nothing_printed(self):
        self.check((), None)
        self.check((("turn", 1), ("ink", "flip"), ("clear", 0, 0, 6, 5)), None)
        self.assertEqual(printed(BARE, PLAIN, (), ()), ("..", ".."))

    def test_box_by_each_turn(self):
        boxes = ("...... ..###. ..###. ...... ......", "...... ##.... ##.... ##.... ......",
                 ".###.. .###.. ...... ...... ......", "...... ..##.. ..##.. ..##.. ......")
        homes = ((1, 0), (2, 0), (4, 2), (1, 4))
        for turn in range(4):
            self.check((("turn", turn), ("home",) + homes[turn], ("box", 1, 1, 3, 2)), boxes[turn])
            self.check((("box", 1, 1, 3, 2),), boxes[turn], settings=homes[turn] + (turn, 1, 3, "set"))

    def test_field_by_each_turn(self):
        for turn, home, place, picture in (
            (0, (1, 0), (0, 1), "...... .##... .#.... .#.... ......"),
            (1, (2, 1), (0, 0), "...... ###... ..#... ...... ......"),
            (2, (3, 3), (0, 1), "...#.. ...#.. ..##.. ...... ......"),
            (3, (2, 2), (0, 0), "...... ..#... ..###. ...... ......"),
        ):
            self.check((("turn", turn), ("home",) + home, ("field",) + place + ("A",)), picture)

    def test_field_by_each_font_and_scale(self):
        self.check((("field", 1, 1, "B"),), "...... .#..#. ...... ....#. ......")
        self.check((("font", 1), ("field", 1, 1, "B"),), "...... ..#... ...... ...... ......")
        self.check((("font", 1), ("scale", 2), ("field", 1, 1, "B"),), "...... ...##. ...##. ...... ......")
        self.check((("font", 1), ("scale", 3), ("field", 0, 1, "B"),), "...... ...### ...### ...### ......")
        self.check((("scale", 2), ("field", 0, -1, "A"),), "####.. ##.... ##.... ##.... ##....")
        self.check((("scale", 2), ("turn", 2), ("home", 5, 4), ("field", 0, 0, "A")),
                   "....## ....## ....## ..#### ..####")

    def test_fields_are_not_moved_by_scale(self):
        self.check((("font", 1), ("scale", 2), ("field", 3, 2, "A"),), "...... ...... ...##. ...##. ......")

    def test_boxes_are_not_scaled(self):
        self.check((("scale", 3), ("font", 1), ("box", 1, 1, 2, 1)), "...... .##... ...... ...... ......")
        self.check((("box", 0, 0, 3, 2), ("scale", 3), ("clear", 1, 0, 1, 1)), "#.#... ###... ...... ...... ......")

    def test_inks(self):
        self.check((("box", 0, 0, 2, 2), ("box", 1, 0, 2, 2)), "###... ###... ...... ...... ......")
        self.check((("box", 0, 0, 2, 2), ("ink", "flip"), ("box", 1, 0, 2, 2)),
                   "#.#... #.#... ...... ...... ......")
        self.check((("box", 0, 0, 3, 3), ("field", 0, 0, "A")), "###... ###... ###... ...... ......")
        self.check((("box", 0, 0, 3, 3), ("ink", "flip"), ("field", 0, 0, "A")),
                   "..#... .##... .##... ...... ......")
        self.check((("ink", "flip"), ("field", 0, 0, "A"), ("field", 0, 1, "A")),
                   "##.... .#.... ...... #..... ......")

    def test_flips_again_and_again(self):
        box, flip = ("box", 1, 1, 2, 1), ("ink", "flip")
        for many in range(6):
            self.check((flip,) + (box,) * many, "...... .##... ...... ...... ......" if many % 2 else None)
            self.check((box, flip) + (box,) * many, None if many % 2 else "...... .##... ...... ...... ......")
        self.check((box, ("clear", 0, 0, 6, 5), flip, box), "...... .##... ...... ...... ......")
        self.check((flip, box, ("clear", 2, 1, 1, 1), box), "...... ..#... ...... ...... ......")

    def test_clear(self):
        for ink in ("set", "flip"):
            self.check((("box", 0, 0, 6, 5), ("ink", ink), ("clear", 1, 1, 2, 3)),
                       "###### #..### #..### #..### ######")
        self.check((("box", 0, 0, 6, 5), ("turn", 1), ("home", 5, 0), ("clear", 0, 0, 1, 4)),
                   "##.... ###### ###### ###### ######")
        self.check((("clear", 0, 0, 2, 2), ("box", 1, 1, 1, 1)), "...... .#.... ...... ...... ......")

    def test_lost_on_each_side(self):
        self.check((("box", -2, 1, 3, 1),), "...... #..... ...... ...... ......")
        self.check((("box", 5, 1, 3, 1),), "...... .....# ...... ...... ......")
        self.check((("box", 1, -2, 1, 3),), ".#.... ...... ...... ...... ......")
        self.check((("box", 1, 4, 1, 3),), "...... ...... ...... ...... .#....")
        self.check((("box", -20, -20, 40, 40),), "###### ###### ###### ###### ######")
        for place in ((-3, 0), (6, 0), (0, -3), (0, 5), (10 ** 6, -10 ** 6)):
            self.check((("box",) + place + (3, 3),), None)
        self.check((("box", 0, 0, 6, 5),), None, settings=(10 ** 900, 0, 0, 0, 1, "set"))
        self.check((("box", 0, 0, 6, 5),), None, settings=(0, -10 ** 900, 3, 0, 1, "set"))

    def test_field_partly_off_the_label(self):
        self.check((("field", 4, 3, "B"),), "...... ...... ...... ....#. ......")
        self.check((("field", -3, 2, "B"),), "...... ...... #..... ...... #.....")
        self.check((("field", 5, -1, "A"),), ".....# .....# ...... ...... ......")
        self.check((("scale", 3), ("field", -5, -8, "A"),), None)
        self.check((("scale", 3), ("field", -1, -8, "A"),), "##.... ...... ...... ...... ......")

    def test_the_plain_command_draws_with_plain_settings(self):
        self.check((("plain",), ("box", 0, 0, 1, 1)), "#..... ...... ...... ...... ......",
                   settings=(3, 3, 2, 1, 3, "flip"))

    def test_settings_are_those_ahead(self):
        self.check((("box", 0, 0, 1, 1), ("move", 2, 1), ("box", 0, 0, 1, 1), ("move", 2, 1), ("box", 0, 0, 1, 1)),
                   "#..... ..#... ....#. ...... ......")

    def test_beside_the_oracle(self):
        chance = Random(2)
        for machine, settings, program in some_cases(3, 400):
            look = some_look(chance, machine)
            wanted = oracle.picture(machine, settings, program, look)
            self.assertEqual(printed(machine, settings, program, look), wanted, (machine, settings, program))

    def test_many_over_few_dots_beside_the_oracle(self):
        chance = Random(5)
        for settings, program in small_cases(6, 300, 20):
            look = some_look(chance, SMALL)
            self.assertEqual(printed(SMALL, settings, program, look), oracle.picture(SMALL, settings, program, look))

    def test_equal_calls_print_the_same(self):
        program = (("box", 0, 0, 2, 2), ("ink", "flip"), ("field", 0, 0, "B"))
        self.assertEqual(printed(PAPER, PLAIN, program, GLYPHS), printed(PAPER, PLAIN, program, GLYPHS))

    def test_greatest_machine(self):
        chance = Random(4)
        look = some_look(chance, GREATEST)
        program = tuple(
            chance.choice([
                ("field", chance.randint(-9, 9), chance.randint(-9, 9), chance.choice("ABCDEFGH")),
                ("turn", chance.randint(0, 3)), ("home", chance.randint(0, 39), chance.randint(0, 39)),
                ("scale", 3), ("font", 2), ("ink", chance.choice(("set", "flip"))), ("clear", 0, 0, 5, 9),
            ]) for _ in range(60)
        )
        self.assertEqual(printed(GREATEST, PLAIN, program, look), oracle.picture(GREATEST, PLAIN, program, look))

    def test_refusals(self):
        check_start(self, printed, oracle.look_of(SMALL, set()), odd_rest=(None,))
        for look in ODD_THINGS + (GLYPHS[:3], list(GLYPHS), put(GLYPHS, 3, ("B", 1, (".x",))), GLYPHS[::-1]):
            with self.assertRaises(OutOfPlace):
                printed(PAPER, PLAIN, (), look)
        with self.assertRaises(OutOfPlace):
            printed(PAPER, PLAIN, (), oracle.look_of(SMALL, set()))
        with self.assertRaises(BadMachine):
            printed(None, PLAIN, (), GLYPHS)
        self.assertEqual(printed(machine=PAPER, settings=PLAIN, program=(), look=GLYPHS), WHITE)


if __name__ == "__main__":
    unittest.main()
