"""alike_from, apart_from, reads, alike, apart and needless: whether programs print the same."""

import unittest
from itertools import permutations
from random import Random

from labelhouse.commands import PLAIN, is_look, is_settings, printed
from labelhouse.errors import BadMachine, BadProgram, OutOfPlace, TooGreat
from labelhouse.likeness import alike, alike_from, apart, apart_from, needless, reads

import oracle
from samples import (
    DOT_WORDS, GREATEST, MACHINE_FAULTS, SMALL, changed, check_start, left_out, put_in, small_cases, some_cases,
    some_command, some_program, some_settings, tiny_cases,
)

DOT = ((1, 1), ((1, 1),), (("A", 1), ("B", 1)))
ALL = ("font", "ink", "scale", "turn", "x", "y")
BOX, CLEAR, FIELD = ("box", 0, 0, 1, 1), ("clear", 0, 0, 1, 1), ("field", 0, 0, "A")
# Labels as great as they may be for all settings, with fields as great as there are.
WIDE = ((12, 12), ((8, 8), (7, 8), (8, 5)), tuple((name, 12) for name in "ABCDEFGH"))
TURNING_WORDS = ("turn", "turn", "field", "field", "field", "ink", "home", "scale", "move", "box", "clear")


def colour_at(machine, settings, program, look, x, y):
    return printed(machine, settings, program, look)[y][x]


class FromTest(unittest.TestCase):
    def check(self, machine, settings, one, other):
        unlike = oracle.unlike_dots(machine, settings, one, settings, other)
        found = apart_from(machine, settings, one, other)
        self.assertEqual(alike_from(machine, settings, one, other), unlike == [])
        self.assertEqual(found, apart_from(machine, settings, one, other))
        if not unlike:
            self.assertIsNone(found)
            return 0
        x, y, look = found
        self.assertEqual((x, y), unlike[0])
        self.assertTrue(is_look(machine, look))
        pictures = [oracle.picture(machine, settings, program, look) for program in (one, other)]
        self.assertEqual(pictures, [printed(machine, settings, program, look) for program in (one, other)])
        self.assertNotEqual(pictures[0][y][x], pictures[1][y][x])
        return 1

    def test_beside_all_looks(self):
        chance = Random(21)
        parted = [self.check(SMALL, settings, program, changed(chance, SMALL, program, DOT_WORDS))
                  for settings, program in small_cases(22, 200, 8)]
        self.assertTrue(20 < sum(parted) < 180, sum(parted))

    def test_beside_all_looks_in_great_fields(self):
        chance = Random(23)
        for machine, settings, program in some_cases(24, 120, longest=6):
            self.check(machine, settings, program, changed(chance, machine, program))

    def test_orders_and_pairs(self):
        ink = (("ink", "set"), ("ink", "flip"))
        a, b = ("field", 0, 0, "A"), ("field", 0, 0, "B")
        for one, other, wanted in (
            ((a, b), (b, a), True),
            (ink[1:] + (a, b), ink[1:] + (b, a), True),
            ((a, ink[1], b), (ink[1], b, ink[0], a), False),
            (ink[1:] + (a, b, a), ink[1:] + (b,), True),
            ((a, a), (a,), True),
            ((a, ink[1], a), (), True),
            ((a, ink[1], a), (b, ink[1], b), True),
            ((a, ink[1], BOX, ink[0], a), (ink[1], BOX, ink[0], a), True),
            ((a, ink[1], BOX, ink[0], a), (ink[1], BOX), True),
            ((a, ink[1], BOX), (ink[1], BOX), False),
            ((a, CLEAR), (), True),
            ((a, CLEAR, b), (b,), True),
            ((a, BOX), (BOX, b), True),
            ((), (BOX,), False),
            ((a,), (b,), False),
            (ink[1:] + (BOX, BOX), (), True),
            (ink[1:] + (BOX,), (BOX,), True),
            # Where A is black the last flip tells B, elsewhere the first one does.
            ((a, ink[1], b, ink[0], a), (ink[1], b, ink[0], a), True),
            ((b, ink[1], b, a), (ink[1], a), True),
        ):
            self.assertEqual(alike_from(DOT, PLAIN, one, other), wanted, (one, other))
            self.assertEqual(alike_from(DOT, PLAIN, other, one), wanted, (one, other))
            self.check(DOT, PLAIN, one, other)

    def test_three_fields_in_any_order(self):
        machine = ((1, 1), ((1, 1),), (("A", 1), ("B", 1), ("C", 1)))
        fields = tuple(("field", 0, 0, name) for name in "ABC")
        for order in permutations(fields):
            for at in range(4):
                one = put_in(put_in(fields, at, ("ink", "flip")), 0, ("ink", "set"))
                other = put_in(put_in(order, at, ("ink", "flip")), 0, ("ink", "set"))
                self.check(machine, PLAIN, one, other)

    def test_dots_that_are_drawn_nearly_as_those_ahead(self):
        machine = ((2, 1), ((1, 1),), (("A", 1), ("B", 1), ("C", 1)))
        inks = ("ink", "set"), ("ink", "flip")
        a, b = (("field", 0, 0, "A"), ("field", 1, 0, "A")), (("field", 0, 0, "B"), ("field", 1, 0, "B"))
        first = (a[0], b[0]), (b[0], a[0])
        for one, other in (
            ((inks[1], a[1], inks[0], b[1]), (b[1], inks[1], a[1])),
            ((a[1], b[1]), (b[1], b[1])),
            ((a[1], b[1]), (b[1], ("field", 1, 0, "C"))),
            ((a[1], b[1]), (("box", 1, 0, 1, 1), a[1])),
            ((a[1], ("clear", 1, 0, 1, 1), b[1]), (b[1], a[1])),
        ):
            self.assertTrue(alike_from(machine, PLAIN, *first))
            self.assertEqual(apart_from(machine, PLAIN, first[0] + one, first[1] + other)[:2], (1, 0))
            self.check(machine, PLAIN, first[0] + one, first[1] + other)

    def test_only_these_settings_count(self):
        one, other = (("turn", 1), BOX), (BOX,)
        machine = ((3, 3), ((1, 1),), ())
        self.assertTrue(alike_from(machine, (1, 1, 1, 0, 1, "set"), one, other))
        self.assertTrue(alike_from(machine, (1, 1, 2, 0, 1, "set"), one, other))
        wide = (("box", 0, 0, 2, 1),)
        self.assertEqual(apart_from(machine, (1, 1, 2, 0, 1, "set"), (("turn", 1),) + wide, wide), (0, 1, ()))
        self.assertTrue(alike_from(machine, (5, 1, 2, 0, 1, "set"), (("turn", 1),) + wide, wide))

    def test_what_is_left_behind_does_not_count(self):
        self.assertTrue(alike_from(DOT, PLAIN, (BOX, ("turn", 2)), (BOX, ("move", 9, 9))))

    def test_great_ones(self):
        fields = tuple(("field", k % 7, k % 5, "ABCDEFGH"[k % 8]) for k in range(59))
        start = PLAIN[:4] + (3, "set")
        self.assertTrue(alike_from(GREATEST, start, fields, fields[::-1]))
        flips = tuple(("field", k % 7, 0, "ABCDEFGH"[k % 8]) for k in range(30))
        start = PLAIN[:4] + (3, "flip")
        self.assertTrue(alike_from(GREATEST, start, flips + flips[::-1], ()))
        x, y, look = apart_from(GREATEST, start, flips + flips[:0:-1], ())
        self.assertEqual((x, y), (0, 0))
        self.assertTrue(is_look(GREATEST, look))

    def test_refusals(self):
        for call in (alike_from, apart_from):
            check_start(self, call, (), odd_rest=(None,))
            for other, number in ((None, None), ([], None), ((BOX,) * 61, None), ((("home", 0),), 0), ((BOX, None), 1)):
                with self.assertRaises(BadProgram) as caught:
                    call(SMALL, PLAIN, (), other)
                self.assertEqual(caught.exception.number, number)
            with self.assertRaises(BadProgram) as caught:
                call(SMALL, PLAIN, (None,), None)
            self.assertEqual(caught.exception.number, 0)
            self.assertEqual(call(SMALL, PLAIN, (), (BOX,)), call(machine=SMALL, settings=PLAIN, one=(), other=(BOX,)))


class ReadsTest(unittest.TestCase):
    def test_each_command(self):
        for command, wanted in (
            (BOX, ("ink", "turn", "x", "y")), (CLEAR, ("turn", "x", "y")), (FIELD, ALL), (("home", 1, 1), ()),
            (("move", 1, 1), ()), (("turn", 1), ()), (("font", 0), ()), (("scale", 2), ()), (("ink", "flip"), ()),
            (("plain",), ()),
        ):
            self.assertEqual(reads(SMALL, (command,)), wanted)

    def test_told_ahead(self):
        for command, names in (
            (("home", 0, 0), ("x", "y")), (("move", 1, 1), ()), (("turn", 0), ("turn",)), (("font", 0), ("font",)),
            (("scale", 1), ("scale",)), (("ink", "set"), ("ink",)), (("plain",), ALL),
        ):
            left = tuple(name for name in ALL if name not in names)
            self.assertEqual(reads(SMALL, (command, FIELD)), left)
            self.assertEqual(reads(SMALL, (command, BOX)), tuple(name for name in left if name not in ("font", "scale")))
            self.assertEqual(reads(SMALL, (command, CLEAR)), tuple(name for name in left if name in ("turn", "x", "y")))
            self.assertEqual(reads(SMALL, (FIELD, command)), ALL)
            self.assertEqual(reads(SMALL, (BOX, command, FIELD)), tuple(sorted(
                {"ink", "turn", "x", "y"} | ({"font", "scale"} & set(left))
            )))

    def test_what_reaches_nothing_reads_too(self):
        self.assertEqual(reads(SMALL, (("box", 1000, 1000, 1, 1),)), ("ink", "turn", "x", "y"))
        self.assertEqual(reads(SMALL, (FIELD, ("home", 0, 0), ("clear", 0, 0, 40, 40))), ALL)
        self.assertEqual(reads(SMALL, ()), ())

    def test_beside_the_oracle(self):
        for machine, _, program in some_cases(25, 300):
            self.assertEqual(reads(machine, program), oracle.reads(program))

    def test_of_any_size(self):
        self.assertEqual(reads(GREATEST, (FIELD,)), ALL)

    def test_refusals(self):
        for machine, part in MACHINE_FAULTS:
            with self.assertRaises(BadMachine) as caught:
                reads(machine, None)
            self.assertEqual(caught.exception.part, part)
        for program, number in ((None, None), ((BOX,) * 61, None), ((BOX, BOX, ("box", 0, 0, 1, 0)), 2)):
            with self.assertRaises(BadProgram) as caught:
                reads(SMALL, program)
            self.assertEqual(caught.exception.number, number)
        self.assertEqual(reads(machine=SMALL, program=(BOX,)), ("ink", "turn", "x", "y"))


class AlikeTest(unittest.TestCase):
    def check_apart(self, machine, one, other):
        found = apart(machine, one, other)
        self.assertEqual(alike(machine, one, other), found is None)
        self.assertEqual(apart(machine, one, other), found)
        if found is not None:
            settings, x, y, look = found
            self.assertTrue(is_settings(machine, settings))
            self.assertTrue(is_look(machine, look))
            self.assertNotEqual(
                colour_at(machine, settings, one, look, x, y), colour_at(machine, settings, other, look, x, y)
            )
        return found

    def check(self, machine, one, other):
        found = self.check_apart(machine, one, other)
        if found is None:
            self.assertTrue(oracle.alike(machine, one, other), (machine, one, other))
        return found is None

    def test_beside_all_settings_and_looks(self):
        found = [self.check(*case) for case in tiny_cases(31, 48, longest=3)]
        self.assertTrue(10 < sum(found) < 40, sum(found))

    def test_beside_all_settings_where_fields_are_turned(self):
        found = [self.check(*case) for case in tiny_cases(32, 36, TURNING_WORDS, 4)]
        self.assertTrue(8 < sum(found) < 40, sum(found))

    def test_by_hand(self):
        inks = ("ink", "set"), ("ink", "flip")
        a, b = ("field", 0, 0, "A"), ("field", 0, 0, "B")
        wipe = ("clear", 0, 0, 2, 1)
        for one, other, wanted in (
            ((), (), True),
            ((("home", 5, 5),), (), True),
            ((("turn", 3), ("font", 0)), (("scale", 2),), True),
            ((BOX,), (BOX, BOX), False),
            (inks[:1] + (BOX,), inks[:1] + (BOX, BOX), True),
            ((CLEAR,), (), True),
            ((BOX, CLEAR), (), True),
            ((BOX, ("move", 1, 0), CLEAR), (BOX,), True),
            ((BOX, ("move", 1, 0), ("clear", -1, 0, 2, 1)), (), False),
            ((BOX, ("turn", 0), ("move", 1, 0), ("clear", -1, 0, 2, 1)), (), True),
            ((("move", 1, 0), ("move", 2, 3), BOX), (("move", 3, 3), BOX), True),
            ((("move", 1, 0), BOX), (("box", 1, 0, 1, 1),), False),
            ((("turn", 0), ("move", 1, 0), BOX), (("turn", 0), ("box", 1, 0, 1, 1)), True),
            ((("plain",), BOX, BOX), (("home", 0, 0), BOX, BOX), False),
            ((("plain",), BOX), (("home", 0, 0), inks[0], BOX), True),
            ((("plain",), a), (("home", 0, 0), inks[0], ("turn", 0), a), False),
            ((("plain",), a), (("home", 0, 0), inks[0], ("turn", 0), ("scale", 1), a), True),
            ((a, b), (b, a), True),
            ((BOX, a), (a, BOX), True),
            ((BOX, inks[1], a), (inks[1], a, inks[0], BOX), False),
            (inks[:1] + (BOX, a), inks[:1] + (a, BOX), True),
            (inks[1:] + (a, a), (), True),
            # The set comes ahead of the flip, so it is as good as a flip; behind it, it is not.
            (inks[:1] + (a,) + inks[1:] + (b,), inks[1:] + (a, b), True),
            (inks[1:] + (b,) + inks[:1] + (a,), inks[1:] + (b, a), False),
            # What is drawn alike at the begin or at the end does not tell whether all between is.
            (inks[:1] + (BOX, ("box", 0, 1, 1, 1), wipe), inks[:1] + (("box", 1, 0, 1, 1), BOX, wipe), False),
            (inks[:1] + (BOX, wipe, ("box", 0, 1, 1, 1)), inks[:1] + (("box", 1, 0, 1, 1), wipe), False),
            (inks[:1] + (BOX, wipe), inks[:1] + (("box", 1, 0, 1, 1), wipe), True),
            # What is told is black where what is kept is not, from all origins but one.
            (inks[:1] + (("turn", 0), BOX, ("home", 0, 0), BOX), inks[:1] + (("turn", 0), BOX), False),
            (inks[:1] + (("home", 0, 0), ("turn", 0), BOX, ("move", 0, 0), BOX), inks[:1] + (("plain",), BOX), True),
            # All points of the one stand where those of the other one stand, whatever the scale; of one dot alone.
            ((("scale", 2), a), (("scale", 1), a), False),
        ):
            machine = ((2, 2 if wipe in one else 1),) + DOT[1:]
            self.assertEqual(self.check(machine, one, other), wanted, (one, other))
            self.assertEqual(alike(machine, other, one), wanted, (one, other))

    def test_one_font_or_more(self):
        told, kept = (("font", 0), FIELD), (FIELD,)
        self.assertTrue(self.check(((2, 2), ((1, 1),), (("A", 1),)), told, kept))
        self.assertFalse(self.check(((2, 2), ((1, 1), (1, 1)), (("A", 1),)), told, kept))

    def test_fields_that_turn_about_one_dot(self):
        machine = ((2, 2), ((1, 1),), (("A", 1),))
        one, other = (("turn", 0), FIELD, ("turn", 1), FIELD), (("turn", 3), FIELD, FIELD)
        self.assertFalse(self.check(machine, one, other))
        self.assertTrue(self.check(machine, (("scale", 1),) + one, (("scale", 1),) + other))
        one = (("turn", 0), ("scale", 1), ("ink", "set"), FIELD)
        self.assertTrue(self.check(machine, one + (("turn", 1), FIELD), one))
        self.assertFalse(self.check(machine, one[:1] + (("scale", 2),) + one[2:] + (("turn", 1), FIELD), one))
        wide = ((3, 3), ((3, 3),), (("A", 1),))
        # The middle of the field stays where it is; the other dots do not.
        around = ("home", 1, 1), ("scale", 1), ("ink", "set"), ("turn", 0), ("field", -1, -1, "A")
        self.assertFalse(self.check(wide, around + (("turn", 1), ("field", -1, -1, "A")), around))
        hole = tuple(("clear", x, y, 1, 1) for x in (-1, 0, 1) for y in (-1, 0, 1) if (x, y) != (0, 0))
        self.assertTrue(self.check_apart(wide, around + (("turn", 1), ("field", -1, -1, "A")) + hole, around + hole) is None)

    def test_one_origin_alone_tells(self):
        far = 1000
        for x, y in ((far, 0), (-far, far), (3, -far)):
            # The box that is told hides the one that is kept, but for one dot that is reached from one origin alone.
            one = (("ink", "set"), ("turn", 0), ("box", x, y, 1, 1), ("home", 0, 0), ("box", 0, 0, 11, 12), ("box", 11, 0, 1, 11))
            found = self.check_apart(WIDE, one, one[:2] + one[3:])
            self.assertEqual(found[:3], ((11 - x, 11 - y, 0, 0, 1, "set"), 11, 11))
            hidden = one + (("box", 11, 11, 1, 1),)
            self.assertIsNone(self.check_apart(WIDE, hidden, left_out(hidden, 2)))

    def test_the_look_fits_however_a_field_stands(self):
        machine = ((4, 4), ((2, 3), (3, 1), (1, 2)), (("A", 2), ("B", 1)))
        for turn in range(4):
            for font in range(3):
                for scale in (1, 2, 3):
                    head = (("turn", turn), ("font", font), ("scale", scale))
                    for field in (("field", 0, 0, "A"), ("field", 1, -1, "B")):
                        self.assertIsNotNone(self.check_apart(machine, head + (field,), head))
                        self.assertIsNotNone(self.check_apart(machine, head + (field, ("move", 1, 1), field), head + (field,)))

    def test_a_field_that_is_hidden_where_it_is_the_same(self):
        head = (("turn", 0), ("font", 0), ("ink", "set"))
        # A field with the scale 1 has the glyph dots of that with the scale 2 at its first dot alone.
        scaled = (("scale", 1), FIELD, ("scale", 2), FIELD)
        for font, most, wanted in (((1, 1), 1, True), ((1, 1), 2, False), ((1, 2), 1, False), ((2, 1), 1, False)):
            machine = ((3, 3), (font,), (("A", most),))
            self.assertEqual(self.check_apart(machine, head + scaled, head + scaled[2:]) is None, wanted, (font, most))
            told = head + (("home", 0, 0),)
            self.assertEqual(self.check_apart(machine, told + scaled, told + scaled[2:]) is None, wanted, (font, most))
        # A field that is kept has those of the one that is told from one origin alone.
        kept = (("scale", 1), FIELD, ("home", 0, 0), FIELD)
        for size, font, most, wanted in (
            ((1, 1), (1, 1), 1, True), ((2, 1), (1, 1), 2, False), ((2, 1), (2, 1), 1, False), ((1, 2), (1, 2), 1, False),
            ((2, 2), (2, 2), 1, False),
        ):
            machine = (size, (font,), (("A", most),))
            found = self.check_apart(machine, head + kept, head + kept[:1] + kept[2:])
            self.assertEqual(found is None, wanted, (size, font, most))
            self.assertTrue(found is None or found[0][:2] != (0, 0))
        # One of two that are kept hides the other one only if it has all its glyph dots.
        twice = (("scale", 1), FIELD, ("move", 1, 0), ("field", -1, 0, "A"))
        machine = ((3, 1), ((1, 1),), (("A", 3),))
        self.assertIsNone(self.check_apart(machine, head + twice, head + twice[:2] + twice[2:3]))
        self.assertIsNotNone(self.check_apart(machine, head + twice + (FIELD,), head + twice))

    def test_one_turn_alone_tells(self):
        # A box of two dots, of which all are cleared but the one that it has by one turn alone.
        ends = ((1, 0), (0, 1), (-1, 0), (0, -1))
        for turn, end in enumerate(ends):
            hidden = (("turn", 0), BOX) + tuple(("clear", x, y, 1, 1) for x, y in ends if (x, y) != end)
            one, other = (("ink", "set"), ("box", 0, 0, 2, 1)) + hidden, (("ink", "set"),) + hidden
            self.assertEqual(self.check_apart(DOT, one, other)[0][2:], (turn, 0, 1, "set"))
            self.assertIsNone(self.check_apart(DOT, (("turn", 3 - turn),) + one, (("turn", 3 - turn),) + other))

    def test_one_scale_alone_tells(self):
        # Two fields of two signs; all columns are cleared but some where the first one has another sign at one scale.
        machine = ((1, 1), ((1, 1),), (("A", 2),))
        for told, columns, scale in ((2, (0, 1), 1), (3, (2,), 2), (2, (2,), 3)):
            head = (("ink", "set"), ("turn", 0), ("font", 0))
            hidden = tuple(("clear", x, 0, 1, 3) for x in range(6) if x not in columns) + (("clear", 0, told, 6, 3),)
            rest = (("scale", told), FIELD) + hidden
            self.assertEqual(self.check_apart(machine, head + (FIELD,) + rest, head + rest)[0][2:], (0, 0, scale, "set"))
            for other in (1, 2, 3):
                known = head + (("scale", other),)
                found = self.check_apart(machine, known + (FIELD,) + rest, known + rest)
                self.assertEqual(found is None, other != scale)

    def test_one_font_and_one_ink_alone_tell(self):
        machine = ((2, 1), ((1, 1), (2, 1), (3, 1)), (("A", 1),))
        head, hidden = (("ink", "set"), ("turn", 0), ("scale", 1)), (("clear", 0, 0, 2, 1),)
        self.assertEqual(self.check_apart(machine, head + (FIELD,) + hidden, head)[0][2:], (0, 2, 1, "set"))
        one = (("turn", 0), BOX, BOX, ("ink", "set"), BOX)
        self.assertIsNone(self.check_apart(machine, one, one[:1] + one[3:]))
        self.assertEqual(self.check_apart(machine, one[:3], one[:2])[0][2:], (0, 0, 1, "flip"))

    def test_one_field_behind_another_one_however_they_are_turned(self):
        # All dots of the first field that the second one does not reach are cleared, so the first one is seen if they
        # do not have the same glyph dot at some dot that both reach.
        chance = Random(38)
        found = {True: 0, False: 0}
        for _ in range(1500):
            most, font = chance.choice(((1, (1, 1)), (1, (2, 1)), (1, (1, 2)), (1, (2, 2)), (2, (1, 1)), (1, (3, 3))))
            machine = ((9, 9), (font,), (("A", most),))
            draws, reached = [], []
            for _ in range(2):
                x, y = chance.randint(-2, 2), chance.randint(-2, 2)
                start = (4, 4, chance.randint(0, 3), 0, chance.randint(1, 2), "set")
                draws.append((("turn", start[2]), ("scale", start[4]), ("field", x, y, "A")))
                reached.append(dict(oracle.placed(machine, start, draws[-1][2])))
            alone = [dot for dot in reached[0] if dot not in reached[1]]
            same = all(source == reached[1].get(dot, source) for dot, source in reached[0].items())
            if len(alone) <= 48 and len(alone) < len(reached[0]):
                found[same] += 1
                hidden = (("turn", 0),) + tuple(("clear", x - 4, y - 4, 1, 1) for x, y in alone)
                for head in ((("ink", "set"), ("font", 0)), (("plain",), ("home", 4, 4))):
                    one, other = head + draws[0] + draws[1] + hidden, head + draws[1] + hidden
                    self.assertEqual(self.check_apart(machine, one, other) is None, same, (machine, one))
        self.assertTrue(min(found.values()) > 40, found)

    def test_a_turned_field_that_is_kept_behind_a_told_one(self):
        # From some origin any glyph dot of the kept field stands at any dot.
        for size in ((1, 1), (2, 2), (2, 1), (1, 3)):
            for font in ((1, 1), (2, 1), (1, 2), (2, 2)):
                machine = (size, (font,), (("A", 1),))
                for turn in range(4):
                    for scale in (1, 2, 3):
                        kept = (("ink", "set"), ("font", 0), ("scale", scale), ("turn", turn))
                        told = (("plain",), ("scale", 3), FIELD)
                        found = self.check_apart(machine, kept + (FIELD,) + told, kept + told)
                        self.assertEqual(found is None, font == (1, 1))

    def test_what_is_told_hides_what_is_ahead(self):
        machine = ((3, 3), ((3, 3), (1, 1)), (("A", 1),))
        covers = [("box", 0, 0, 3, 3), ("box", -1, -1, 9, 9), ("clear", 0, 0, 3, 3), ("clear", -2, -3, 5, 6)]
        others = [("field", 0, 0, "A"), ("box", 3, 0, 3, 3), ("clear", 0, -3, 3, 3)]
        for word in ("box", "clear"):
            for x, y, wide, high in ((1, 0, 2, 3), (0, 1, 3, 2), (0, 0, 2, 3), (0, 0, 3, 2), (-1, -1, 3, 9), (-1, -1, 9, 3)):
                others.append((word, x, y, wide, high))
        for cover in covers + others:
            rest = (("plain",), cover)
            self.assertEqual(self.check_apart(machine, (BOX,) + rest, rest) is None, cover in covers, cover)
        flip = (("plain",), ("ink", "flip"), ("box", 0, 0, 3, 3))
        self.assertIsNotNone(self.check_apart(machine, (BOX,) + flip, flip))
        kept = (("ink", "set"), ("turn", 0), ("box", 0, 0, 3, 3))
        self.assertIsNotNone(self.check_apart(machine, (("box", -1, 0, 1, 1),) + kept, kept))
        self.assertIsNone(self.check_apart(machine, kept[:2] + (BOX,) + kept, kept))

    def test_two_commands_that_hang_on_the_origin(self):
        # The clear hides the box from all origins, however far both are moved.
        one = (("box", 900, -900, 3, 2), ("move", 1000, 1000), ("clear", -100, -1900, 3, 2))
        self.assertIsNone(self.check_apart(((5, 4), ((1, 1),), ()), (("turn", 0),) + one, ()))
        self.assertIsNotNone(self.check_apart(((5, 4), ((1, 1),), ()), (("turn", 2),) + one, ()))
        self.assertIsNotNone(self.check_apart(((5, 4), ((1, 1),), ()), one, ()))

    def test_a_kept_field_over_a_told_one(self):
        # They have the same glyph dots from one origin alone, and flip each other away there.
        machine = ((4, 2), ((2, 2),), (("A", 2),))
        head = (("turn", 0), ("scale", 1), ("font", 0), ("ink", "flip"), FIELD, ("home", 0, 0))
        found = self.check_apart(machine, head + (FIELD,), head[:4])
        self.assertNotEqual(found[0][:2], (0, 0))
        for start in oracle.some_starts(machine, head, ())[::7]:
            self.assertEqual(
                oracle.unlike_dots(machine, start, head + (FIELD,), start, head[:4]) == [], start[:2] == (0, 0)
            )

    def test_great_ones(self):
        chance = Random(33)
        for far in (6, 1000):
            fields = tuple(
                ("field", chance.randint(-far, far), chance.randint(-far, far), chance.choice("ABCDEFGH")) for _ in range(24)
            )
            turns = (("turn", 1), ("scale", 2), ("home", 3, 4))
            one = fields[:8] + turns[:2] + fields[8:16] + turns[2:] + fields[16:]
            for first in (3, 12, 22):
                self.assertTrue(alike(WIDE, one, one[:first] + one[first:first + 2][::-1] + one[first + 2:]))
            self.assertIsNone(apart(WIDE, one + fields[:3], one[:19] + one[19:][::-1] + fields[:3][::-1]))
            self.assertIsNotNone(self.check_apart(WIDE, one, one[1:]))

    def test_great_random_ones(self):
        chance = Random(34)
        for words in (DOT_WORDS, TURNING_WORDS):
            for _ in range(4):
                one = some_program(chance, WIDE, 40, words)
                self.check_apart(WIDE, one, changed(chance, WIDE, one, words))

    def test_refusals(self):
        for call, rest in ((alike, (None, None)), (apart, (None, None)), (needless, (None,))):
            for machine, part in MACHINE_FAULTS:
                with self.assertRaises(BadMachine) as caught:
                    call(machine, *rest)
                self.assertEqual(caught.exception.part, part)
            for size in ((13, 1), (1, 13), (13, 13), (40, 40)):
                with self.assertRaises(TooGreat) as caught:
                    call((size, ((1, 1),), ()), *rest)
                self.assertEqual(caught.exception.most, 12)
            for programs, number in (
                ((None,) * len(rest), None), (((),) * (len(rest) - 1) + ((BOX, None),), 1), (((BOX,) * 61,) * len(rest), None),
            ):
                with self.assertRaises(BadProgram) as caught:
                    call(SMALL, *programs)
                self.assertEqual(caught.exception.number, number)
            call(((12, 12), ((1, 1),), ()), *[()] * len(rest))
        for call in (alike, apart):
            with self.assertRaises(BadProgram) as caught:
                call(SMALL, (BOX, BOX, None), None)
            self.assertEqual(caught.exception.number, 2)
            self.assertEqual(call(SMALL, (BOX,), ()), call(machine=SMALL, one=(BOX,), other=()))
        self.assertEqual(needless(machine=SMALL, program=(CLEAR,)), (0,))


class NeedlessTest(unittest.TestCase):
    def test_by_hand(self):
        for program, wanted in (
            ((), ()),
            ((BOX,), ()),
            ((CLEAR,), (0,)),
            ((BOX, CLEAR), (0,)),
            ((("turn", 1),), ()),
            ((("turn", 1), ("turn", 2)), (0,)),
            ((("turn", 1), ("turn", 1)), (0, 1)),
            ((("move", 0, 0),), (0,)),
            ((("move", 1, 0), ("move", -1, 0)), ()),
            ((("move", 1, 0), ("home", 0, 0)), (0,)),
            ((("home", 0, 0), ("plain",)), (0,)),
            ((("plain",), ("home", 0, 0)), (1,)),
            ((("plain",), ("ink", "set"), ("scale", 1)), (1, 2)),
            ((("plain",), ("plain",)), (0, 1)),
            ((("turn", 1), BOX, ("turn", 1)), (0, 2)),
            ((("turn", 1), ("box", 0, 0, 2, 1), ("turn", 1)), (2,)),
            ((("turn", 1), BOX, ("turn", 2)), (0,)),
            ((("turn", 1), ("box", 0, 0, 2, 1), ("turn", 2)), ()),
            ((BOX, BOX), ()),
            ((("ink", "set"), BOX, BOX), (1, 2)),
            ((("ink", "flip"), BOX, BOX), ()),
            ((("font", 0),), (0,)),
            ((("font", 0), FIELD, ("font", 0)), (0, 2)),
        ):
            machine = ((3, 2), ((1, 1),), (("A", 1),))
            self.assertEqual(needless(machine, program), wanted, program)

    def test_a_font_counts_where_there_are_more(self):
        machine = ((3, 2), ((1, 1), (1, 1)), (("A", 1),))
        self.assertEqual(needless(machine, (("font", 0),)), ())
        self.assertEqual(needless(machine, (("font", 0), FIELD, ("font", 0))), (2,))
        self.assertEqual(needless(machine, (("font", 1), ("font", 1))), (0, 1))

    def test_beside_all_settings_and_looks(self):
        many = 0
        for machine, one, _ in tiny_cases(35, 60, longest=5):
            found = needless(machine, one)
            self.assertEqual(found, needless(machine, one))
            for number in range(len(one)):
                rest = left_out(one, number)
                same = oracle.leaves_alike(machine, one, rest) and alike(machine, one, rest)
                self.assertEqual(number in found, same, (machine, one, number))
                if same and many < 40:
                    many += 1
                    self.assertTrue(oracle.alike(machine, one, rest))
            self.assertEqual(list(found), sorted(set(found)))
        self.assertEqual(many, 40)

    def test_great_ones(self):
        chance = Random(36)
        fields = tuple(some_command(chance, WIDE, ("field",)) for _ in range(20))
        program = (("ink", "set"),) + fields + fields + (("move", 1000, 1000),) + fields[:10]
        found = needless(WIDE, program)
        self.assertEqual([number for number in found if number <= 40], list(range(1, 41)))
        self.assertNotIn(41, found)
        hidden = fields + (("home", 0, 0), ("turn", 0), ("clear", 0, 0, 12, 12), ("ink", "set"), ("box", 0, 0, 1, 1))
        self.assertEqual(needless(WIDE, hidden), tuple(range(20)))

    def test_great_random_ones(self):
        chance = Random(37)
        for words in (DOT_WORDS, TURNING_WORDS):
            program = some_program(chance, WIDE, 60, words)
            found = needless(WIDE, program)
            for number in found:
                self.assertTrue(alike(WIDE, program, left_out(program, number)))
                start = some_settings(chance, WIDE)
                self.assertTrue(alike_from(WIDE, start, program, left_out(program, number)))


if __name__ == "__main__":
    unittest.main()
