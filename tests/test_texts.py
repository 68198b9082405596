"""program_text and read_program: programs as texts."""

import unittest
from random import Random

from labelhouse.errors import BadMachine, BadProgram, BadText
from labelhouse.texts import program_text, read_program

from samples import BARE, GREATEST, MACHINE_FAULTS, ODD_THINGS, SMALL, put, some_cases, some_program

LINES = (
    (("home", 0, -1), "home 0 -1"), (("home", -1000000, 1000000), "home -1000000 1000000"), (("move", 12, 304), "move 12 304"),
    (("turn", 3), "turn 3"), (("turn", 0), "turn 0"), (("font", 1), "font 1"), (("scale", 3), "scale 3"), (("ink", "set"), "ink set"),
    (("ink", "flip"), "ink flip"), (("plain",), "plain"), (("box", -10, 20, 1, 40), "box -10 20 1 40"),
    (("clear", 0, 0, 40, 1), "clear 0 0 40 1"), (("field", -7, 0, "C"), "field -7 0 C"), (("field", 100, -100, "A"), "field 100 -100 A"),
)
PROGRAM = tuple(command for command, _ in LINES)
TEXT = "\n".join(line for _, line in LINES)

# Lines that are none of the machine SMALL: words, blanks, signs, figures, limits, names, parts too many and too few.
NO_LINES = (
    "", " ", "Plain", "plain ", " plain", "plain 0", "plainly", "PLAIN", "machine 1 1 1 1", "bare", "keep", "dot 0 0", "None", "'plain'",
    "home", "home 0", "home 0 0 0", "home  0 0", "home 0  0", " home 0 0", "home 0 0 ", "home\t0 0", "home 0,0", "home 0\t0", "home 0 0\r",
    "home 00 0", "home 01 0", "home 0 -01", "home +1 0", "home -0 0", "home 0 -0", "home - 0", "home -", "home --1 0", "home 1- 0",
    "home 1.0 0", "home 1e3 0", "home 0x1 0", "home 1_0 0", "home True 0", "home None 0", "home a 0", "home -a 0", "home 0 a",
    "home 1000001 0", "home 0 -1000001", "home " + "9" * 31 + " 0", "home 0 " + "1" * 18000, "home 0 -" + "1" * 18000,
    "home \u0661 0", "home \u00b2 0", "home 0 \uff11", "move 1000001 0", "move 0 1000001", "move 0", "move 0 0 0", "move 0 00",
    "turn 4", "turn -1", "turn", "turn 0 0", "turn 00", "turn set", "font 2", "font -1", "font", "font A", "scale 0", "scale 4", "scale",
    "scale 1 1", "ink", "ink 0", "ink Set", "ink set flip", "ink sets", "ink set ", "ink  set", "box 0 0 1", "box 0 0 1 1 1", "box 0 0 0 1",
    "box 0 0 41 1", "box 0 0 1 0", "box 0 0 1 41", "box 0 0 1 -1", "box 1000001 0 1 1", "box 0 0 01 1", "clear 0 0 1", "clear 0 0 0 1",
    "clear 0 0 1 41", "clear 0 0 1 1 1", "clear 0 -1000001 1 1", "field 0 0", "field 0 0 B", "field 0 0 a", "field 0 0 AC", "field A 0 0",
    "field 0 0 A A", "field 0 0 ", "field 0 0 0", "field 1000001 0 A", "field 0 -0 A", "field 0 0 A\r",
)


class TextTest(unittest.TestCase):
    def test_each_command(self):
        for command, line in LINES:
            self.assertEqual(program_text(SMALL, (command,)), line)
            self.assertEqual(read_program(SMALL, line), (command,))
        self.assertEqual(program_text(SMALL, PROGRAM), TEXT)
        self.assertEqual(read_program(SMALL, TEXT), PROGRAM)
        self.assertEqual((program_text(SMALL, ()), read_program(SMALL, "")), ("", ()))
        self.assertEqual(program_text(machine=SMALL, program=PROGRAM), TEXT)
        self.assertEqual(read_program(machine=SMALL, string=TEXT), PROGRAM)

    def test_there_and_back(self):
        chance = Random(261)
        for machine, _, program in some_cases(262, 300, longest=60):
            self.assertEqual(read_program(machine, program_text(machine, program)), program)
        for machine in (BARE, SMALL, GREATEST):
            for _ in range(30):
                program = some_program(chance, machine, 60)
                text = program_text(machine, program)
                self.assertEqual((read_program(machine, text), text.count("\n")), (program, 59))

    def test_kinds(self):
        for command in read_program(SMALL, TEXT):
            self.assertIsInstance(command, tuple)
            for part in command:
                self.assertIn(type(part), (int, str))


class RefusalsTest(unittest.TestCase):
    def refused(self, machine, string, line):
        with self.assertRaises(BadText, msg=string) as caught:
            read_program(machine, string)
        self.assertEqual(caught.exception.line, line, string)

    def test_machine_first(self):
        for machine, part in MACHINE_FAULTS:
            for call in (program_text, read_program):
                with self.assertRaises(BadMachine) as caught:
                    call(machine, None)
                self.assertEqual(caught.exception.part, part)

    def test_programs(self):
        for program, number in ((None, None), ([], None), (PROGRAM * 5, None), (("plain",), 0), (put(PROGRAM, 3, None), 3)):
            with self.assertRaises(BadProgram) as caught:
                program_text(SMALL, program)
            self.assertEqual(caught.exception.number, number)

    def test_what_is_no_string(self):
        for thing in ODD_THINGS + (TEXT.encode(), [TEXT], (TEXT,), PROGRAM):
            if not isinstance(thing, str):
                self.refused(SMALL, thing, 0)

    def test_lines(self):
        for line in NO_LINES:
            if line:
                self.refused(SMALL, line, 1)
            for ahead in (1, 2, 14, 59):
                self.refused(SMALL, "\n".join(["plain"] * ahead + [line]), ahead + 1)
                self.refused(SMALL, "\n".join(["plain"] * ahead + [line, "plain", "nonsense"]), ahead + 1)
            self.refused(SMALL, line + "\nplain", 1)

    def test_newlines(self):
        self.refused(SMALL, "\n", 1)
        self.refused(SMALL, TEXT + "\n", len(PROGRAM) + 1)
        self.refused(SMALL, "\n" + TEXT, 1)
        self.refused(SMALL, "plain\n\nplain", 2)
        self.refused(SMALL, "plain\r\nplain", 1)
        self.refused(SMALL, "plain\x0bplain", 1)
        self.refused(SMALL, "plain\u2028plain", 1)

    def test_names_and_fonts_of_the_machine(self):
        self.refused(BARE, "field 0 0 A", 1)
        self.refused(BARE, "plain\nfont 1", 2)
        self.assertEqual(read_program(GREATEST, "field 0 0 H\nfont 2"), (("field", 0, 0, "H"), ("font", 2)))
        self.refused(GREATEST, "field 0 0 I", 1)
        self.refused(GREATEST, "font 3", 1)

    def test_sixty_lines(self):
        self.assertEqual(read_program(SMALL, "\n".join(["turn 1"] * 60)), (("turn", 1),) * 60)
        self.refused(SMALL, "\n".join(["turn 1"] * 61), 61)
        self.refused(SMALL, "\n".join(["turn 1"] * 60) + "\n", 61)
        self.refused(SMALL, "\n".join(["turn 1"] * 2000), 61)
        self.refused(SMALL, "\n".join(["turn 1"] * 60 + ["nonsense"]), 61)
        self.refused(SMALL, "\n".join(["turn 1"] * 59 + ["nonsense", "turn 1"]), 60)


if __name__ == "__main__":
    unittest.main()
