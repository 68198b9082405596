"""Desk: a desk that is told lines."""

import unittest
from random import Random

from labelhouse.clipping import cuts
from labelhouse.commands import PLAIN, settings_behind
from labelhouse.desk import Desk
from labelhouse.dots import share
from labelhouse.errors import OutOfPlace
from labelhouse.likeness import alike, needless, reads
from labelhouse.rounds import steady
from labelhouse.runs import first_again, label, times
from labelhouse.texts import program_text

from samples import ODD_THINGS, WORDS, changed, some_program
from test_texts import NO_LINES

MACHINE = ((6, 5), ((2, 3),), (("A", 2), ("C", 1)))
SETTING_UP = ("machine 6 5 2 3", "letter C 1", "letter A 2")
FIRST_RUN = "run 5 7 100 2"

# Lines that want a machine, a counter, a run.
MACHINE_LINES = (
    "letter A 2", "plain", "home 0 0", "box 0 0 1 1", "turn 1", "bare", "keep", "same", "behind", "reads", "dot 0 0", "cuts", "steady",
    "needless",
)
RUN_LINES = ("label 0", "times a0", "again")
# Lines that are none, whatever the desk has; those of commands stand in test_texts.
WRONG_LINES = tuple(line for line in NO_LINES if line not in ("bare", "keep", "dot 0 0", "machine 1 1 1 1", "font 2")) + (
    "hello", "machine", "machine 6 5 2", "machine 6 5 2 3 1", "machine 0 5 2 3", "machine 41 5 2 3", "machine 6 5 9 3", "machine 6 5 2 0",
    "machine 06 5 2 3", "machine 6  5 2 3", "machine 6 5 2 3 ", " machine 6 5 2 3", "Machine 6 5 2 3", "machine 6 5 2 x", "machine -6 5 2 3",
    "machine +6 5 2 3", "letter", "letter B", "letter B 0", "letter B 13", "letter B 2 2", "letter I 2", "letter b 2", "letter BD 2",
    "letter 2 B", "letter  B 2", "letter B 02", "letter A 1", "letter C 1", "letter A 2", "bare 0", "bare ", "keep 1", "same 1", "behind 0",
    "reads x", "dot", "dot 0", "dot 0 0 0", "dot 6 0", "dot 0 5", "dot -1 0", "dot 0 -0", "dot 00 0", "dot a b", "cuts 0", "steady 0",
    "needless 0", "counter", "counter a", "counter aa", "counter ab ", "counter  ab", "counter ab  cd", "counter ab c", "counter" + " ab" * 13,
    "counter a%b", "counter ab\ncd", "counter a\tb", "run", "run 5 7 100", "run 5 7 100 2 1", "run 20 7 100 2", "run -1 7 100 2",
    "run 5 1000000000000000001 100 2", "run 5 7 0 2", "run 5 7 100 0", "run 5 7 100 1001", "run 05 7 100 2", "run 5  7 100 2",
    "run 5 7 1" + "0" * 29 + "1 2", "run 5 7 " + "1" * 32 + " 2", "run 5 -0 100 2", "label", "label 200", "label -1", "label 00",
    "label 0 0", "label x", "label " + "1" * 32, "label 1" + "0" * 31, "times", "times a", "times a00", "times c0", "times a0 b0",
    "times a0 ", "times  a0", "again 1", "again ", "run a b c d", "label 0\n", "\nlabel 0", "box 0 0 1 1\nplain", "plain\n", "program",
)


def told(*lines):
    """A desk that was told some lines, all of which it takes."""
    desk = Desk()
    for line in lines:
        if desk.say(line) != "done":
            raise ValueError(line)
    return desk


def all_told(desk):
    """What a desk answers to all that it can be asked, and its program."""
    return [desk.program] + [desk.say(line) for line in (
        "same", "behind", "reads", "dot 0 0", "dot 3 2", "cuts", "steady", "needless", "label 0", "label 3", "times a5", "again",
    )]


def some_desk(chance, machine, program):
    """A desk with a machine with one font and a program."""
    (wide, high), ((cell, tall),), fields = machine
    lines = [f"letter {name} {most}" for name, most in fields]
    chance.shuffle(lines)
    text = program_text(machine, program)
    return told(f"machine {wide} {high} {cell} {tall}", *lines, *(text.split("\n") if text else ()))


class NamedTest(unittest.TestCase):
    def test_at_first(self):
        desk = Desk()
        for line in MACHINE_LINES + ("run 0 1 1 1",) + RUN_LINES:
            self.assertEqual(desk.say(line), "no", line)
        self.assertIsNone(desk.program)

    def test_each_line(self):
        desk = told(*SETTING_UP)
        self.assertEqual(desk.program, ())
        self.assertEqual([desk.say(line) for line in ("same", "reads", "cuts", "steady", "needless")], ["no", "none", "none", "0", "none"])
        self.assertEqual(desk.say("behind"), "0 0 0 0 1 set")
        for line in ("ink set", "box 0 0 2 2", "box 5 4 2 1", "field 1 0 A", "ink flip", "move -1 2"):
            self.assertEqual(desk.say(line), "done")
        self.assertEqual(desk.program, (
            ("ink", "set"), ("box", 0, 0, 2, 2), ("box", 5, 4, 2, 1), ("field", 1, 0, "A"), ("ink", "flip"), ("move", -1, 2),
        ))
        self.assertEqual(desk.say("behind"), "-1 2 0 0 1 flip")
        self.assertEqual(desk.say("reads"), "font scale turn x y")
        self.assertEqual([desk.say(line) for line in ("dot 0 0", "dot 1 0", "dot 2 0", "dot 5 0")], ["1 0", "2 1", "1 1", "0 0"])
        self.assertEqual(desk.say("cuts"), "- - 1 - - -")
        self.assertEqual(desk.say("steady"), "3")
        self.assertEqual(desk.say("needless"), "none")
        self.assertEqual([desk.say(line) for line in ("keep", "same", "box 0 0 1 1", "same")], ["done", "yes", "done", "no"])
        self.assertEqual([desk.say(line) for line in ("bare", "same", "cuts", "behind")], ["done", "no", "none", "0 0 0 0 1 set"])

    def test_runs(self):
        desk = told("counter ab 0123456789", FIRST_RUN)
        self.assertEqual([desk.say(line) for line in ("label 0", "label 6", "label 199")], ["a5", "a6", "b8"])
        self.assertEqual([desk.say(line) for line in ("times a5", "times a6", "again")], ["10", "10", "20"])
        self.assertEqual([desk.say(line) for line in ("run 5 7 20 1", "again", "times a5", "label 20")], ["done", "none", "1", "no"])
        self.assertEqual([desk.say(line) for line in ("run 19 0 1" + "0" * 30 + " 1000", "again", "times b9")], ["done", "1", "1" + "0" * 33])
        self.assertEqual([desk.say(line) for line in ("label " + "9" * 31, "times a9")], ["b9", "0"])
        # There is a label with this number, but it has more figures than are taken.
        self.assertEqual((desk.say("label 1" + "0" * 31), desk.say("label 1" + "0" * 30)), ("no", "b9"))
        self.assertEqual([desk.say(line) for line in ("run 0 -1000000000000000000 3 1", "label 1")], ["done", "a0"])
        # Another counter takes the run away.
        self.assertEqual([desk.say(line) for line in ("counter xyz", "label 0", "times x", "again")], ["done", "no", "no", "no"])
        self.assertEqual([desk.say(line) for line in ("run 0 1 5 1", "label 4", "again")], ["done", "y", "3"])
        self.assertEqual(desk.say("counter" + " ab" * 12), "done")

    def test_a_counter_and_a_machine(self):
        # Neither takes anything of the other away.
        desk = told("counter ab 0123456789", FIRST_RUN, *SETTING_UP, "box 0 0 1 1", "keep", "turn 1")
        self.assertEqual([desk.say(line) for line in ("label 0", "times a5", "counter xyz")], ["a5", "10", "done"])
        self.assertEqual([desk.say(line) for line in ("cuts", "same", "run 1 1 2 1")], ["- -", "yes", "done"])
        self.assertEqual([desk.say(line) for line in ("machine 3 3 1 1", "same", "cuts", "label 1")], ["done", "no", "none", "z"])
        self.assertEqual(desk.program, ())

    def test_letters_in_order(self):
        desk = told("machine 6 5 2 3", "box 0 0 1 1", "keep", "letter C 1", "field 0 0 C", "letter A 2", "letter H 12", "letter B 1")
        self.assertEqual(desk.program, (("box", 0, 0, 1, 1), ("field", 0, 0, "C")))
        self.assertEqual(desk.say("field 0 0 H"), "done")
        self.assertEqual((desk.say("cuts"), desk.say("same")), ("- - 4", "no"))
        for name in "DEFG":
            self.assertEqual(desk.say(f"letter {name} 1"), "done")
            self.assertEqual(desk.say(f"letter {name} 1"), "no")
        # What is kept stays, too.
        self.assertEqual([desk.say(line) for line in ("bare", "box 0 0 1 1", "same")], ["done", "done", "yes"])

    def test_sixty_commands(self):
        desk = told(*SETTING_UP, *["move 1 0"] * 60)
        before = desk.program
        self.assertEqual([desk.say(line) for line in ("move 1 0", "box 0 0 1 1", "plain")], ["no"] * 3)
        self.assertEqual((desk.program, desk.say("behind")), (before, "60 0 0 0 1 set"))
        self.assertEqual([desk.say(line) for line in ("bare", "move 1 0", "behind")], ["done", "done", "1 0 0 0 1 set"])

    def test_great_labels(self):
        # These are asked of labels of at most 12 by 12; the others of all.
        desk = told("machine 13 12 1 1", "box 0 0 1 1", "keep")
        self.assertEqual([desk.say(line) for line in ("same", "needless", "cuts", "steady", "dot 12 11")], ["no", "no", "-", "0", "0 0"])
        desk = told("machine 12 12 1 1", "box 0 0 1 1", "keep")
        self.assertEqual([desk.say(line) for line in ("same", "needless", "dot 12 11")], ["yes", "none", "no"])
        self.assertEqual([desk.say(line) for line in ("ink set", "plain", "needless")], ["done", "done", "1"])

    def test_by_name(self):
        desk = Desk()
        self.assertEqual(desk.say(line="machine 3 3 1 1"), "done")
        with self.assertRaises(AttributeError):
            desk.program = ()


class BesideCallsTest(unittest.TestCase):
    def test_programs(self):
        chance = Random(271)
        found = {}
        for _ in range(150):
            machine = (
                (chance.randint(1, 6), chance.randint(1, 6)), ((chance.randint(1, 2), chance.randint(1, 2)),),
                tuple((name, chance.randint(1, 2)) for name in sorted(chance.sample("ABCDEFGH", chance.randint(0, 2)))),
            )
            program = some_program(chance, machine, chance.randint(0, 6), tuple(word for word in WORDS if word != "font"))
            desk = some_desk(chance, machine, program)
            self.assertEqual(desk.program, program)
            self.assertEqual(desk.say("behind"), " ".join(str(part) for part in settings_behind(machine, PLAIN, program)))
            self.assertEqual(desk.say("reads"), " ".join(reads(machine, program)) or "none")
            self.assertEqual(desk.say("steady"), str(steady(machine, PLAIN, program)))
            self.assertEqual(desk.say("cuts"), " ".join("-" if n is None else str(n) for n in cuts(machine, PLAIN, program)) or "none")
            self.assertEqual(desk.say("needless"), " ".join(str(number) for number in needless(machine, program)) or "none")
            for x in range(-1, machine[0][0] + 1):
                for y in range(machine[0][1]):
                    if 0 <= x < machine[0][0]:
                        self.assertEqual(desk.say(f"dot {x} {y}"), " ".join(str(n) for n in share(machine, PLAIN, program, x, y)))
                    else:
                        self.assertEqual(desk.say(f"dot {x} {y}"), "no")
            desk.say("keep")
            other = changed(chance, machine, program, tuple(word for word in WORDS if word != "font"))
            desk.say("bare")
            for line in program_text(machine, other).split("\n") if other else ():
                self.assertEqual(desk.say(line), "done")
            answer = desk.say("same")
            self.assertEqual(answer, "yes" if alike(machine, program, other) else "no")
            found[answer] = True
        self.assertEqual(len(found), 2)

    def test_runs(self):
        chance = Random(272)
        desk = Desk()
        for _ in range(60):
            counter = tuple("".join(chance.sample("abc#~!9", chance.randint(2, 4))) for _ in range(chance.randint(1, 3)))
            many = 1
            for dial in counter:
                many *= len(dial)
            run = (counter, chance.randrange(many), chance.randint(-99, 99), chance.randint(1, 99), chance.randint(1, 5))
            self.assertEqual(desk.say("counter " + " ".join(counter)), "done")
            self.assertEqual(desk.say("run " + " ".join(str(part) for part in run[1:])), "done")
            serial = first_again(run)
            self.assertEqual(desk.say("again"), "none" if serial is None else str(serial))
            for number in range(run[3] * run[4]):
                text = label(run, number)
                self.assertEqual(desk.say(f"label {number}"), text)
                if number < 10:
                    self.assertEqual(desk.say(f"times {text}"), str(times(run, text)))


class WrongLinesTest(unittest.TestCase):
    def test_they_change_nothing(self):
        desk = told(*SETTING_UP, "box 0 0 2 2", "field 1 0 A", "keep", "ink flip", "box 5 4 2 1", "counter ab 0123456789", FIRST_RUN)
        before = all_told(desk)
        self.assertEqual(len(before), 13)
        for line in WRONG_LINES:
            self.assertEqual(desk.say(line), "no", line)
            self.assertEqual(desk.program, before[0])
        self.assertEqual(all_told(desk), before)

    def test_without_anything(self):
        desk = Desk()
        for line in WRONG_LINES:
            self.assertEqual(desk.say(line), "no", line)
        self.assertIsNone(desk.program)
        # A counter alone is no run; a machine alone is no counter.
        self.assertEqual([desk.say(line) for line in ("counter ab",) + RUN_LINES], ["done"] + ["no"] * 3)
        self.assertEqual([desk.say(line) for line in MACHINE_LINES], ["no"] * len(MACHINE_LINES))
        self.assertEqual([desk.say(line) for line in ("machine 3 3 1 1", "font 1", "font 0")], ["done", "no", "done"])
        desk = told("machine 3 3 1 1")
        self.assertEqual([desk.say(line) for line in ("run 0 1 1 1",) + RUN_LINES], ["no"] * 4)

    def test_a_refused_counter_keeps_the_run(self):
        desk = told("counter ab 0123456789", FIRST_RUN)
        for line in ("counter aa", "counter", "run 20 1 1 1", "machine 0 0 0 0"):
            self.assertEqual((desk.say(line), desk.say("label 0")), ("no", "a5"))

    def test_what_is_no_string(self):
        desk = told(*SETTING_UP, "box 0 0 1 1")
        for thing in ODD_THINGS + (b"bare", ["bare"], ("bare",)):
            if not isinstance(thing, str):
                with self.assertRaises(OutOfPlace):
                    desk.say(thing)
        self.assertEqual(desk.program, (("box", 0, 0, 1, 1),))

    def test_desks_are_their_own(self):
        one, other = told(*SETTING_UP, "box 0 0 1 1"), Desk()
        self.assertEqual((one.say("cuts"), other.say("cuts"), other.program), ("-", "no", None))


if __name__ == "__main__":
    unittest.main()
