"""need_machine, is_settings, is_command and is_look: whether things are as told."""

import unittest

from labelhouse.commands import PLAIN, is_command, is_look, is_settings, need_machine
from labelhouse.errors import BadMachine

from oracle import look_of
from samples import BARE, GREATEST, MACHINE_FAULTS, ODD_THINGS, SMALL, put

SIZE, FONTS, FIELDS = SMALL


class NeedMachineTest(unittest.TestCase):
    def refused(self, thing, part):
        with self.assertRaises(BadMachine) as caught:
            need_machine(thing)
        self.assertEqual(caught.exception.part, part, repr(thing)[:80])

    def test_gives_itself_back(self):
        for machine in (SMALL, BARE, GREATEST, ((1, 1), ((1, 1),), ()), ((40, 1), ((8, 1), (1, 8)), (("H", 12),))):
            self.assertIs(need_machine(machine), machine)
            self.assertIs(need_machine(thing=machine), machine)

    def test_form(self):
        for thing in ODD_THINGS + (SMALL[:2], SMALL + (1,), SMALL[:1], list(SMALL), (SMALL,), "ABC", 7, {0: SMALL}):
            self.refused(thing, "form")

    def test_size(self):
        for size in ODD_THINGS + ([4, 3], (4,), (4, 3, 1), "43", 4, {4: 1, 3: 1}):
            self.refused((size, FONTS, FIELDS), "size")
        for at in (0, 1):
            for number in ODD_THINGS + (0, 41, -1):
                self.refused((put(SIZE, at, number), FONTS, FIELDS), "size")
            for number in (1, 2, 39, 40):
                machine = (put(SIZE, at, number), FONTS, FIELDS)
                self.assertIs(need_machine(machine), machine)

    def test_fonts(self):
        for fonts in ODD_THINGS + (list(FONTS), (1, 1), FONTS * 2, ((1, 1),) * 4, {FONTS[0]: 1}):
            self.refused((SIZE, fonts, FIELDS), "fonts")
        for number in range(3):
            fonts = ((1, 1), (2, 2), (3, 3))
            for font in ODD_THINGS + ([1, 1], (1, 1, 1), "11", 1):
                self.refused((SIZE, put(fonts, number, font), FIELDS), "fonts")
            for at in (0, 1):
                for worth in ODD_THINGS + (0, 9, -1):
                    self.refused((SIZE, put(fonts, number, put((1, 1), at, worth)), FIELDS), "fonts")
                for worth in (1, 2, 7, 8):
                    machine = (SIZE, put(fonts, number, put((1, 1), at, worth)), FIELDS)
                    self.assertIs(need_machine(machine), machine)

    def test_fields(self):
        for fields in ODD_THINGS:
            if fields != ():
                self.refused((SIZE, FONTS, fields), "fields")
        for fields in (list(FIELDS), ("A", 2), {("A", 2): 1}, tuple((name, 1) for name in "ABCDEFGHI")):
            self.refused((SIZE, FONTS, fields), "fields")
        for number in (0, 1):
            for field in ODD_THINGS + (["B", 1], ("B", 1, 1), ("B",), "B1", 1):
                self.refused((SIZE, FONTS, put(FIELDS, number, field)), "fields")
            for most in ODD_THINGS + (0, 13, -1, "A"):
                self.refused((SIZE, FONTS, put(FIELDS, number, (FIELDS[number][0], most))), "fields")
            for most in (1, 2, 11, 12):
                machine = (SIZE, FONTS, put(FIELDS, number, (FIELDS[number][0], most)))
                self.assertIs(need_machine(machine), machine)

    def test_names_of_fields(self):
        for name in ODD_THINGS + ("I", "Z", "a", "h", "AA", "ABCDEFGH", "@", " A", 1, 65):
            self.refused((SIZE, FONTS, ((name, 1),)), "fields")
        for name in "ABCDEFGH":
            machine = (SIZE, FONTS, ((name, 1),))
            self.assertIs(need_machine(machine), machine)

    def test_fields_ascend(self):
        for fields in (
            (("B", 1), ("A", 1)), (("A", 1), ("A", 1)), (("A", 1), ("A", 2)), (("A", 2), ("A", 1)),
            (("A", 1), ("C", 1), ("B", 1)), (("A", 1), ("B", 1), ("B", 2)), (("A", 1), ("B", 1), ("A", 2)),
            tuple((name, 1) for name in "AABCDEFG"), tuple((name, 1) for name in "ABCDEFGHH"),
        ):
            self.refused((SIZE, FONTS, fields), "fields")

    def test_first_wrong_part(self):
        for thing, part in MACHINE_FAULTS:
            self.refused(thing, part)
        self.refused((0, 0, 0), "size")
        self.refused((SIZE, 0, 0), "fonts")
        self.refused((SIZE, FONTS, 0), "fields")
        self.refused((0, FONTS, 0), "size")


class IsSettingsTest(unittest.TestCase):
    def test_plain(self):
        self.assertEqual(PLAIN, (0, 0, 0, 0, 1, "set"))
        self.assertIs(is_settings(SMALL, PLAIN), True)
        self.assertIs(is_settings(machine=BARE, value=PLAIN), True)

    def test_each_place(self):
        places = (
            ((0, 5, -5, 10 ** 900, -10 ** 900), ()),
            ((0, 5, -5, 10 ** 900, -10 ** 900), ()),
            ((0, 1, 2, 3), (4, -1)),
            ((0, 1), (2, -1)),
            ((1, 2, 3), (0, 4)),
            (("set", "flip"), ("clear", "SET", "se", "setflip", 0, 1)),
        )
        for at, (good, wrong) in enumerate(places):
            for thing in good:
                self.assertIs(is_settings(SMALL, put(PLAIN, at, thing)), True)
            for thing in ODD_THINGS + wrong:
                if thing not in good or isinstance(thing, (bool, float)):
                    self.assertIs(is_settings(SMALL, put(PLAIN, at, thing)), False, (at, repr(thing)[:40]))

    def test_any_value(self):
        for thing in ODD_THINGS + (PLAIN[:5], PLAIN + (0,), list(PLAIN), "set", 0, (PLAIN,), SMALL):
            self.assertIs(is_settings(SMALL, thing), False)

    def test_fonts_are_those_of_the_machine(self):
        self.assertIs(is_settings(BARE, put(PLAIN, 3, 1)), False)
        self.assertIs(is_settings(GREATEST, put(PLAIN, 3, 2)), True)
        self.assertIs(is_settings(GREATEST, put(PLAIN, 3, 3)), False)

    def test_machine_is_looked_at(self):
        for machine, part in MACHINE_FAULTS:
            for call in (is_settings, is_command, is_look):
                with self.assertRaises(BadMachine) as caught:
                    call(machine, None)
                self.assertEqual(caught.exception.part, part)


GOOD_COMMANDS = (
    ("home", 1, -1), ("move", 1, -1), ("turn", 3), ("font", 1), ("scale", 3), ("ink", "flip"), ("plain",),
    ("box", -1, 1, 2, 3), ("clear", -1, 1, 2, 3), ("field", -1, 1, "C"),
)
PLACES = ("home", "move", "box", "clear", "field")


class IsCommandTest(unittest.TestCase):
    def answer(self, command, wanted):
        self.assertIs(is_command(SMALL, command), wanted, repr(command)[:80])

    def test_each_command(self):
        for command in GOOD_COMMANDS:
            self.answer(command, True)
            self.answer(command + (1,), False)
            self.answer(command + ("A",), False)
            self.answer(list(command), False)
            self.answer((command,), False)
            self.answer(command[1:], False)
            self.answer(command[0], False)
            self.answer((command[0].upper(),) + command[1:], False)
            self.answer((command[0] + "s",) + command[1:], False)
            if len(command) > 1:
                self.answer(command[:-1], False)
        self.assertIs(is_command(machine=SMALL, value=("plain",)), True)

    def test_odd_things_in_each_place(self):
        for command in GOOD_COMMANDS:
            for at in range(len(command)):
                for thing in ODD_THINGS:
                    self.answer(put(command, at, thing), False)
        for thing in ODD_THINGS + (5, "plain", PLAIN, SMALL, ("print",), ("reset",), ("set", 0, 1)):
            self.answer(thing, False)

    def test_places(self):
        for command in GOOD_COMMANDS:
            if command[0] in PLACES:
                for at in (1, 2):
                    for number in (0, 1000000, -1000000):
                        self.answer(put(command, at, number), True)
                    for number in (1000001, -1000001):
                        self.answer(put(command, at, number), False)

    def test_lengths(self):
        for word in ("box", "clear"):
            for at in (3, 4):
                for number in (1, 40):
                    self.answer(put((word, 0, 0, 1, 1), at, number), True)
                for number in (0, 41, -1):
                    self.answer(put((word, 0, 0, 1, 1), at, number), False)

    def test_words(self):
        for word, good, wrong in (
            ("turn", (0, 1, 2, 3), (-1, 4)), ("font", (0, 1), (-1, 2)), ("scale", (1, 2, 3), (0, 4)),
            ("ink", ("set", "flip"), ("clear", "", "s", 0)),
        ):
            for thing in good:
                self.answer((word, thing), True)
            for thing in wrong:
                self.answer((word, thing), False)

    def test_names_are_those_of_the_machine(self):
        for name in ("A", "C"):
            self.answer(("field", 0, 0, name), True)
        for name in ("B", "D", "H", "I", "a", "AC", ""):
            self.answer(("field", 0, 0, name), False)
        self.assertIs(is_command(BARE, ("field", 0, 0, "A")), False)
        self.assertIs(is_command(BARE, ("font", 0)), True)
        self.assertIs(is_command(BARE, ("font", 1)), False)
        self.assertIs(is_command(GREATEST, ("font", 2)), True)


class IsLookTest(unittest.TestCase):
    def test_looks(self):
        for machine in (SMALL, BARE, GREATEST):
            self.assertIs(is_look(machine, look_of(machine, set())), True)
        self.assertIs(is_look(BARE, ()), True)
        self.assertIs(is_look(machine=SMALL, value=look_of(SMALL, {("A", 1, 3, 0), ("C", 0, 0, 0)})), True)

    def test_any_value(self):
        for thing in ODD_THINGS + ("#.", SMALL, PLAIN):
            self.assertIs(is_look(SMALL, thing), False)
            if thing != ():
                self.assertIs(is_look(BARE, thing), False)

    def test_wrong_parts(self):
        look = look_of(SMALL, set())
        self.assertEqual(look[1], ("A", 1, ("....",)))
        for wrong in (
            look[:3], look[1:], look + look[3:], look[::-1], list(look), look[:1] + look[2:3] + look[1:2] + look[3:],
            look[:1] * 2 + look[2:], look + (("D", 0, (".",)),),
        ):
            self.assertIs(is_look(SMALL, wrong), False)
        for part in ODD_THINGS + (
            list(look[1]), look[1][:2], look[1] + (1,), ("B", 1, ("....",)), ("A", 0, ("....",)), ("A", True, ("....",)),
            ("A", 1.0, ("....",)), ("A", 1, ["...."]), ("A", 1, "...."), ("A", 1, ("....", "....")), ("A", 1, ()),
            ("A", 1, ("...",)), ("A", 1, (".....",)), ("A", 1, (b"....",)), ("A", 1, (["."] * 4,)), ("A", 1, ("..x.",)),
            ("A", 1, ("x...",)), ("A", 1, ("... ",)), ("A", 1, (". #.",)), ("A", 1, (None,)), (None, 1, ("....",)),
            ("A", None, ("....",)), ("A", 1, None), (["A"], 1, ("....",)),
        ):
            self.assertIs(is_look(SMALL, put(look, 1, part)), False, repr(part)[:60])
        for rows in (("####",), (".#.#",), ("#...",)):
            self.assertIs(is_look(SMALL, put(look, 1, ("A", 1, rows))), True)

    def test_rows_are_as_many_as_the_font_is_tall(self):
        machine = ((5, 5), ((2, 3),), (("B", 2),))
        self.assertIs(is_look(machine, (("B", 0, ("....", "#..#", "####")),)), True)
        self.assertIs(is_look(machine, (("B", 0, ("...", "...", "...", "...")),)), False)
        self.assertIs(is_look(machine, (("B", 0, ("....", "#..#")),)), False)
        self.assertIs(is_look(machine, (("B", 0, ("....", "#..#", "###")),)), False)
        for at in range(3):
            for row in ODD_THINGS + (b"....", [".", ".", ".", "."], (".",) * 4, "...", ".....", "..:."):
                self.assertIs(is_look(machine, (("B", 0, put(("....", "#..#", "####"), at, row)),)), False)


if __name__ == "__main__":
    unittest.main()
