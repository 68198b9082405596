"""writes, dot_list, share and dots_alike: one dot, whatever the look."""

import unittest
from random import Random

from labelhouse.commands import PLAIN
from labelhouse.dots import dot_list, dots_alike, share, writes
from labelhouse.errors import OutOfPlace

import oracle
from samples import GREATEST, ODD_THINGS, SMALL, check_start, put, small_cases, some_cases, some_program

# All fields stand over the dot (0, 0) with these glyph dots.
A, B, C = ("A", 0, 0, 0), ("B", 0, 0, 0), ("C", 0, 0, 0)
TOWER = ((2, 1), ((1, 1),), (("A", 1), ("B", 1), ("C", 1)))
DOT_CALLS = (writes, dot_list, share)


def tower(words):
    """A program by letters: a, b, c flip a field, A, B, C set it, x flips and X sets a box, . clears."""
    program = []
    for word in words:
        program.append(("ink", "flip" if word.islower() else "set"))
        if word == ".":
            program.append(("clear", 0, 0, 1, 1))
        elif word in "xX":
            program.append(("box", 0, 0, 1, 1))
        else:
            program.append(("field", 0, 0, word.upper()))
    return tuple(program)


def tower_list(words):
    return dot_list(TOWER, PLAIN, tower(words), 0, 0)


class WritesTest(unittest.TestCase):
    def test_in_turn(self):
        self.assertEqual(writes(TOWER, PLAIN, tower("AxB.Xca"), 0, 0), (
            ("set", A), ("flip", ()), ("set", B), ("clear",), ("set", ()), ("flip", C), ("flip", A),
        ))
        self.assertEqual(writes(TOWER, PLAIN, tower("AxB.Xca"), 1, 0), ())
        self.assertEqual(writes(TOWER, PLAIN, (), 0, 0), ())

    def test_glyph_dots(self):
        machine = ((9, 9), ((2, 3), (3, 1)), (("B", 2), ("D", 1)))
        program = (("scale", 2), ("field", 1, 1, "B"), ("font", 1), ("ink", "flip"), ("field", 0, 2, "D"))
        for (x, y), wanted in {
            (1, 1): (("set", ("B", 0, 0, 0)),), (2, 2): (("set", ("B", 0, 0, 0)), ("flip", ("D", 1, 1, 0))),
            (3, 1): (("set", ("B", 0, 1, 0)),), (8, 6): (("set", ("B", 0, 3, 2)),),
            (5, 3): (("set", ("B", 0, 2, 1)), ("flip", ("D", 1, 2, 0))), (0, 3): (("flip", ("D", 1, 0, 0)),),
            (0, 0): (), (6, 7): (), (1, 7): (), (8, 0): (),
        }.items():
            self.assertEqual(writes(machine, PLAIN, program, x, y), wanted)

    def test_turned(self):
        machine = ((5, 5), ((1, 2),), (("A", 3),))
        for turn, dot in enumerate(((4, 3), (1, 4), (0, 1), (3, 0))):
            start = (2, 2, turn, 0, 1, "set")
            self.assertEqual(writes(machine, start, (("field", 0, 0, "A"),), *dot), (("set", ("A", 0, 2, 1)),))

    def test_beside_the_oracle(self):
        for machine, settings, program in some_cases(11, 150):
            for (x, y), wanted in oracle.all_writes(machine, settings, program).items():
                self.assertEqual(writes(machine, settings, program, x, y), tuple(wanted))

    def test_refusals(self):
        for call in DOT_CALLS:
            check_start(self, call, 0, 0, odd_rest=(None, None))
            for place in ODD_THINGS + (-1, 4, 100):
                with self.assertRaises(OutOfPlace):
                    call(SMALL, PLAIN, (), place, 0)
            for place in ODD_THINGS + (-1, 3, 100):
                with self.assertRaises(OutOfPlace):
                    call(SMALL, PLAIN, (), 0, place)
            self.assertEqual(call(SMALL, PLAIN, (), 3, 2), call(machine=SMALL, settings=PLAIN, program=(), x=0, y=0))
            call(SMALL, PLAIN, (), 3, 0)
            call(SMALL, PLAIN, (), 0, 2)


class DotListTest(unittest.TestCase):
    def test_white_and_black(self):
        self.assertEqual(tower_list(""), ((), ((), 0)))
        self.assertEqual(tower_list("."), ((), ((), 0)))
        self.assertEqual(tower_list("X"), ((), ((), 1)))
        self.assertEqual(tower_list("x"), ((), ((), 1)))
        self.assertEqual(tower_list("xx"), ((), ((), 0)))
        self.assertEqual(tower_list("Xx"), ((), ((), 0)))
        self.assertEqual(tower_list("xX"), ((), ((), 1)))

    def test_branches(self):
        self.assertEqual(tower_list("A"), (((A, ((), 1)),), ((), 0)))
        self.assertEqual(tower_list("AB"), (((B, ((), 1)), (A, ((), 1))), ((), 0)))
        self.assertEqual(tower_list("BA"), (((A, ((), 1)), (B, ((), 1))), ((), 0)))
        self.assertEqual(tower_list("XAB"), (((B, ((), 1)), (A, ((), 1))), ((), 1)))

    def test_set_again(self):
        self.assertEqual(tower_list("ABA"), (((A, ((), 1)), (B, ((), 1))), ((), 0)))
        self.assertEqual(tower_list("AbAcA"), (((A, ((), 1)),), ((B, C), 0)))
        self.assertEqual(tower_list("AxA"), (((A, ((), 1)),), ((), 1)))
        self.assertEqual(tower_list("AxAx"), (((A, ((), 0)),), ((), 0)))

    def test_flips(self):
        self.assertEqual(tower_list("a"), ((), ((A,), 0)))
        self.assertEqual(tower_list("xa"), ((), ((A,), 1)))
        self.assertEqual(tower_list("cab"), ((), ((A, B, C), 0)))
        self.assertEqual(tower_list("Xc"), ((), ((C,), 1)))
        self.assertEqual(tower_list("Ab"), (((A, ((B,), 1)),), ((B,), 0)))
        self.assertEqual(tower_list("bA"), (((A, ((), 1)),), ((B,), 0)))
        self.assertEqual(tower_list("AcBx"), (((B, ((), 0)), (A, ((C,), 0))), ((C,), 1)))

    def test_what_is_known_is_put_in(self):
        self.assertEqual(tower_list("Aa"), (((A, ((), 0)),), ((), 0)))
        self.assertEqual(tower_list("aA"), (((A, ((), 1)),), ((), 0)))
        self.assertEqual(tower_list("ABa"), (((B, ((A,), 1)), (A, ((), 0))), ((), 0)))
        self.assertEqual(tower_list("ABb"), (((B, ((), 0)), (A, ((), 1))), ((), 0)))
        self.assertEqual(tower_list("AbB"), (((B, ((), 1)), (A, ((), 1))), ((), 0)))

    def test_pairs_fall_out(self):
        self.assertEqual(tower_list("aa"), ((), ((), 0)))
        self.assertEqual(tower_list("abab"), ((), ((), 0)))
        self.assertEqual(tower_list("aba"), ((), ((B,), 0)))
        self.assertEqual(tower_list("aaa"), ((), ((A,), 0)))
        self.assertEqual(tower_list("bAb"), (((A, ((B,), 1)),), ((), 0)))

    def test_behind_a_clear_and_a_black_box(self):
        self.assertEqual(tower_list("ABx.c"), ((), ((C,), 0)))
        self.assertEqual(tower_list("AbXc"), ((), ((C,), 1)))
        self.assertEqual(tower_list("X.A"), (((A, ((), 1)),), ((), 0)))
        self.assertEqual(tower_list("A.XBXc"), ((), ((C,), 1)))
        self.assertEqual(tower_list("AX.B"), (((B, ((), 1)),), ((), 0)))
        self.assertEqual(tower_list("A..b."), ((), ((), 0)))

    def test_glyph_dots_ascend(self):
        machine = ((3, 1), ((1, 1), (1, 1)), (("A", 3), ("B", 1)))
        program = (
            ("ink", "flip"), ("font", 1), ("field", 0, 0, "B"), ("field", -2, 0, "A"), ("field", 0, 0, "A"),
            ("font", 0), ("field", 0, 0, "B"), ("field", -1, 0, "A"), ("field", 0, 0, "A"),
        )
        self.assertEqual(dot_list(machine, PLAIN, program, 0, 0), ((), ((
            ("A", 0, 0, 0), ("A", 0, 1, 0), ("A", 1, 0, 0), ("A", 1, 2, 0), ("B", 0, 0, 0), ("B", 1, 0, 0),
        ), 0)))

    def check_form(self, told, wrote):
        """That branches stand as told, and that nothing in a PARITY is known."""
        branches, last = told
        known = set()
        for dot, parity in branches + (((), last),):
            known |= {dot}
            glyphs, odd = parity
            self.assertEqual(glyphs, tuple(sorted(set(glyphs))))
            self.assertFalse(known & set(glyphs))
            self.assertIn(odd, (0, 1))
            self.assertNotIsInstance(odd, bool)
        cut = [at for at, write in enumerate(wrote) if write in (("clear",), ("set", ()))]
        rest = wrote[cut[-1] + 1:] if cut else wrote
        last_set = {write[1]: at for at, write in enumerate(rest) if write[0] == "set"}
        self.assertEqual([dot for dot, _ in branches], sorted(last_set, key=last_set.get, reverse=True))

    def test_tells_the_colour_by_each_look(self):
        for settings, program in small_cases(12, 250):
            for (x, y), wrote in oracle.all_writes(SMALL, settings, program).items():
                told = dot_list(SMALL, settings, program, x, y)
                self.check_form(told, wrote)
                for black in oracle.blacks(oracle.dots_in_writes(wrote)):
                    self.assertEqual(oracle.colour_by_list(told, black), oracle.colour(wrote, black), program)

    def test_shares_beside_counting(self):
        for settings, program in small_cases(13, 150):
            for x in range(4):
                told = dot_list(SMALL, settings, program, x, 1)
                looks = oracle.blacks(oracle.dots_in_list(told))
                black = sum(oracle.colour_by_list(told, look) for look in looks)
                self.assertEqual(share(SMALL, settings, program, x, 1), (black, len(looks).bit_length() - 1))


class ShareTest(unittest.TestCase):
    def share(self, words):
        return share(TOWER, PLAIN, tower(words), 0, 0)

    def test_shares(self):
        for words, wanted in (
            ("", (0, 0)), ("X", (1, 0)), ("x", (1, 0)), ("A", (1, 1)), ("a", (1, 1)), ("AB", (3, 2)), ("ab", (2, 2)),
            ("ABC", (7, 3)), ("XA", (2, 1)), ("Aa", (0, 1)), ("aa", (0, 0)), ("Ab", (2, 2)), ("ABx", (1, 2)),
            ("AB.", (0, 0)), ("AcB", (6, 3)), ("abA", (3, 2)), ("Abb", (1, 1)),
        ):
            self.assertEqual(self.share(words), wanted, words)

    def test_many_glyph_dots(self):
        machine = ((40, 1), ((8, 8),), (("A", 12),))
        fields = tuple(("field", -k, 0, "A") for k in range(60))
        self.assertEqual(share(machine, PLAIN, fields, 0, 0), (2 ** 60 - 1, 60))
        flips = (("ink", "flip"),) + fields[:59]
        self.assertEqual(share(machine, PLAIN, flips, 0, 0), (2 ** 58, 59))
        self.assertEqual(share(machine, PLAIN, fields, 39, 0), (2 ** 57 - 1, 57))


WRONG_LISTS = ODD_THINGS + (
    ((), ((), 0), ()), [(), ((), 0)], ((), [(), 0]), ((), ([], 0)), ((), ((), 2)), ((), ((), -1)), ((), ((), True)),
    ((), ((), False)), ((), ((), 1.0)), ((), ((), None)), ((), ((),)), ((), ((), 0, 0)), ((), None), (None, ((), 0)),
    ([], ((), 0)), ((A,), ((), 0)), (((A,),), ((), 0)), ((((), ((), 0)),), ((), 0)), ((), (A, 0)), ((), ((None,), 0)),
    ((), ((A, A), 0)), ((), ((B, A), 0)), ((), ((A, C, B), 0)), ((), ((["A", 0, 0, 0],), 0)),
    (((A, ((), 1)), (A, ((), 1))), ((), 0)), (((A, ((), 1)), (B, ((), 1)), (A, ((), 0))), ((), 0)),
    (((A, ((A,), 1)),), ((), 0)), (((A, ((), 1)), (B, ((A,), 1))), ((), 0)), (((A, ((), 1)), (B, ((B,), 1))), ((), 0)),
    (((A, ((), 1)),), ((A,), 0)), (((A, ((), 1)), (B, ((), 1))), ((A,), 0)), (((A, ((), 1)), (B, ((), 1))), ((B,), 0)),
    (((A, ((), 1), 0),), ((), 0)), (((A, ((), 2)),), ((), 0)), (((A, ((B, B), 1)),), ((), 0)), (([A, ((), 1)],), ((), 0)),
    (((A, [(), 1]),), ((), 0)), ((((A, ((), 1)),), ((), 0)),),
)
WRONG_DOTS = ODD_THINGS + (
    (), ("A", 0, 0), ("A", 0, 0, 0, 0), ["A", 0, 0, 0], ("I", 0, 0, 0), ("a", 0, 0, 0), ("AB", 0, 0, 0), ("", 0, 0, 0),
    (0, 0, 0, 0), (None, 0, 0, 0), (b"A", 0, 0, 0), (("A",), 0, 0, 0),
) + tuple(put(A, at, thing) for at in (1, 2, 3) for thing in (-1, True, False, 0.0, "0", None, [], (0,), {}))


def some_list(chance, dots):
    """A LIST of some of these glyph dots."""
    ways = chance.sample(dots, chance.randint(0, len(dots)))
    branches = []
    for at, dot in enumerate(ways):
        branches.append((dot, some_parity(chance, [free for free in dots if free not in ways[:at + 1]])))
    return tuple(branches), some_parity(chance, [free for free in dots if free not in ways])


def some_parity(chance, free):
    return tuple(dot for dot in free if chance.random() < 0.4), chance.randint(0, 1)


class DotsAlikeTest(unittest.TestCase):
    def check(self, one, other, wanted):
        self.assertIs(dots_alike(one, other), wanted, (one, other))
        self.assertIs(dots_alike(other, one), wanted, (one, other))

    def test_alike(self):
        for one, other in (
            ("", "."), ("", "aa"), ("X", "x"), ("A", "a"), ("AB", "BA"), ("ABC", "CAB"), ("Ab", "ab"), ("Aa", ""),
            ("AAB", "AB"), ("XA", "X"), ("aB.", ""), ("aAbB", "AB"), ("abab", ""), ("AbA", "bA"), ("ABb", "AbBb"), ("Ab", "Ba"),
        ):
            self.check(tower_list(one), tower_list(other), True)

    def test_not_alike(self):
        for one, other in (
            ("", "X"), ("A", "B"), ("A", ""), ("AB", "ab"), ("a", "xa"), ("AB", "ABC"), ("Ab", "B"), ("bA", "ab"),
            ("ABc", "ABC"), ("A", "Ax"), ("ABc", "BcA"),
        ):
            self.check(tower_list(one), tower_list(other), False)

    def test_of_other_machines(self):
        far = ("H", 7, 10 ** 900, 95)
        self.check((((far, ((), 1)),), ((), 0)), ((), ((far,), 0)), True)
        self.check((((far, ((), 1)),), ((), 0)), ((), ((("H", 7, 10 ** 900, 96),), 0)), False)

    def test_beside_all_looks(self):
        chance = Random(14)
        found = {True: 0, False: 0}
        for _ in range(4000):
            dots = [A, B, C][:chance.randint(1, 3)]
            one, other = some_list(chance, dots), some_list(chance, dots)
            looks = oracle.blacks(oracle.dots_in_list(one) | oracle.dots_in_list(other))
            wanted = all(oracle.colour_by_list(one, look) == oracle.colour_by_list(other, look) for look in looks)
            found[wanted] += 1
            self.check(one, other, wanted)
        self.assertGreater(min(found.values()), 100)

    def test_dots_of_programs(self):
        chance = Random(15)
        for _ in range(300):
            one, other = ("".join(chance.choice("aAbBcCxX") for _ in range(chance.randint(0, 5))) for _ in range(2))
            wrote = [writes(TOWER, PLAIN, tower(words), 0, 0) for words in (one, other)]
            looks = oracle.blacks({A, B, C})
            wanted = all(oracle.colour(wrote[0], look) == oracle.colour(wrote[1], look) for look in looks)
            self.check(tower_list(one), tower_list(other), wanted)

    def test_greatest_lists(self):
        machine = ((40, 1), ((8, 8),), (("A", 12),))
        fields = tuple(("field", -k, 0, "A") for k in range(60))
        one, other = dot_list(machine, PLAIN, fields, 0, 0), dot_list(machine, PLAIN, fields[::-1], 0, 0)
        self.check(one, other, True)
        self.check(one, dot_list(machine, PLAIN, fields[1:], 0, 0), False)

    def test_refusals(self):
        white = ((), ((), 0))
        for wrong in WRONG_LISTS:
            for pair in ((wrong, white), (white, wrong), (wrong, wrong)):
                with self.assertRaises(OutOfPlace):
                    dots_alike(*pair)
        for dot in WRONG_DOTS:
            for wrong in ((((dot, ((), 1)),), ((), 0)), ((), ((dot,), 0)), (((A, ((dot,), 1)),), ((), 0))):
                with self.assertRaises(OutOfPlace):
                    dots_alike(white, wrong)
        self.assertIs(dots_alike(one=white, other=white), True)


class GreatestMachineTest(unittest.TestCase):
    def test_answers(self):
        program = some_program(Random(16), GREATEST, 60, ("field",) * 7 + ("ink", "turn", "font", "scale", "home"))
        program = tuple(("home", 20, 20) if command[0] == "home" else command for command in program)
        wrote = oracle.all_writes(GREATEST, PLAIN, program)
        for x in range(0, 40, 3):
            for y in range(0, 40, 5):
                self.assertEqual(writes(GREATEST, PLAIN, program, x, y), tuple(wrote[x, y]))
                told = dot_list(GREATEST, PLAIN, program, x, y)
                self.assertIs(dots_alike(told, told), True)
                self.assertEqual(share(GREATEST, PLAIN, program, x, y)[1], len(oracle.dots_in_list(told)))


if __name__ == "__main__":
    unittest.main()
