"""need_desire, serves, fewest_commands, program, commands_paper, check_commands and fewest_rounds: a row of prints."""

import unittest
from random import Random

from labelhouse.errors import BadDesire, BadPaper, OutOfPlace, TooGreat
from labelhouse.prints import check_commands, commands_paper, fewest_commands, fewest_rounds, need_desire, program, serves

from samples import ODD_THINGS, put

DESIRE = ((1, 2, None), (0, 2, 3), (0, 0, None), (5, None, 0))
START = (1, None, 0)
GREAT = ((9,) * 6,) * 60
SERVING = (
    ("set", 1, 2), ("print",), ("set", 0, 0), ("set", 2, 3), ("print",), ("reset",), ("print",), ("set", 0, 5), ("print",),
)
PAPER = (SERVING, (2, 4, 5), 5)

NO_DESIRES = tuple((thing, None) for thing in ODD_THINGS if not (isinstance(thing, tuple) and thing and thing != ("A",))) + (
    (list(DESIRE), None), (DESIRE * 16, None), (((),), None), (((1,),) * 61, None), ((None, (1,)), None), (([1, 2, None],) + DESIRE, None),
    (((1,) * 7,), None), (((),) + DESIRE, None), ((None,) * 61, None), ((1, 2, None), None),
) + tuple(
    (put(DESIRE, at, thing), at) for at in (1, 3) for thing in ODD_THINGS + ((1, 2), (1, 2, 3, 4), [1, 2, 3])
) + tuple(
    (put(DESIRE, at, put(DESIRE[at], place, thing)), at) for at in (0, 1, 3) for place in (0, 2)
    for thing in ODD_THINGS + (-1, 10, "1") if thing is not None
) + ((((1,), (2, 3), None), 1), (((10,), None), 0))
NO_STARTS = ODD_THINGS + ((1, 2), (1, 2, 3, 4), [1, 2, 3]) + tuple(
    put(START, place, thing) for place in (0, 2) for thing in ODD_THINGS + (-1, 10, "1") if thing is not None
)
CALLS = (
    (need_desire, ()), (serves, (None, None)), (fewest_commands, (None,)), (program, (None,)), (commands_paper, (None,)),
    (check_commands, (None, None)), (fewest_rounds, (None, None)),
)


def some_want(chance, many, most, known=0.75):
    return tuple(chance.randint(0, most) if chance.random() < known else None for _ in range(many))


def some_case(chance, longest=6, registers=3, most=2):
    many = chance.randint(1, registers)
    known = chance.choice((0.4, 0.75, 1))
    desire = tuple(some_want(chance, many, most, known) for _ in range(chance.randint(1, longest)))
    return desire, some_want(chance, many, most, chance.choice((0, 0.6, 1)))


def serves_by_hand(desire, start, commands):
    held = dict(enumerate(start))
    wants = list(desire)
    for command in commands:
        if command[0] == "set":
            held[command[1]] = command[2]
        elif command[0] == "reset":
            held = {at: 0 for at in held}
        else:
            if not wants:
                return False
            for at, item in enumerate(wants.pop(0)):
                if item is not None and held[at] != item:
                    return False
    return not wants


def cost_by_hand(desire, start):
    """The least COST over all PROGRAMS: going on from all that can stand in the REGISTERS to all that serves."""
    values = sorted({item for want in desire for item in want if item is not None} | {0})
    costs = {start: 0}
    for want in desire:
        following = {}
        for held, cost in costs.items():
            for begin, more in ((held, 0), ((0,) * len(held), 1)):
                rows = [()]
                for item, value in zip(want, begin):
                    # What is not wanted may be set ahead of time, too.
                    choices = [item] if item is not None else sorted({value, *values}, key=str)
                    rows = [row + (choice,) for row in rows for choice in choices]
                for row in rows:
                    price = cost + more + sum(one != other for one, other in zip(row, begin))
                    following[row] = min(price, following.get(row, price))
        costs = following
    return min(costs.values())


class DesireTest(unittest.TestCase):
    def test_gives_it_back(self):
        for desire in (DESIRE, GREAT, ((None,),), ((0,), (9,))):
            self.assertIs(need_desire(desire), desire)
        self.assertIs(need_desire(thing=DESIRE), DESIRE)

    def test_what_is_none(self):
        for call, rest in CALLS:
            for thing, number in NO_DESIRES:
                with self.assertRaises(BadDesire, msg=thing) as caught:
                    call(thing, *rest)
                self.assertEqual(caught.exception.number, number, thing)

    def test_start(self):
        for call, rest in CALLS[1:]:
            for start in NO_STARTS:
                with self.assertRaises(OutOfPlace, msg=start):
                    call(DESIRE, start, *rest[1:])
                if call is fewest_rounds:
                    with self.assertRaises(OutOfPlace, msg=start):
                        call(DESIRE, start, 2)

    def test_rounds(self):
        for times in ODD_THINGS + (0, -1, 10 ** 30 + 1, "1"):
            with self.assertRaises(OutOfPlace):
                fewest_rounds(DESIRE, START, times)
        for desire in (DESIRE * 6, DESIRE * 5 + ((1, 1, 1),), GREAT):
            with self.assertRaises(TooGreat) as caught:
                fewest_rounds(desire, None, None)
            self.assertEqual(caught.exception.most, 20)
        self.assertEqual(fewest_rounds(DESIRE * 5, START, 1), fewest_commands(DESIRE * 5, START))


class ServesTest(unittest.TestCase):
    def test_named(self):
        self.assertTrue(serves(DESIRE, START, SERVING))
        self.assertTrue(serves(desire=DESIRE, start=START, thing=SERVING + (("set", 2, 9), ("reset",))))
        self.assertFalse(serves(DESIRE, START, SERVING + (("print",),)))
        self.assertFalse(serves(DESIRE, START, SERVING[:-1]))
        self.assertFalse(serves(DESIRE, START, SERVING[1:]))
        self.assertFalse(serves(DESIRE, (None, None, 0), SERVING))
        # What is not known is told by no want; what is wanted by none may be anything.
        self.assertTrue(serves(((None, None),), (None, 5), (("print",),)))
        self.assertFalse(serves(((None, 0),), (5, None), (("print",),)))
        self.assertTrue(serves(((None, 0),), (5, None), (("reset",), ("print",))))

    def test_any_value(self):
        for thing in ODD_THINGS + (list(SERVING), SERVING[0], "print"):
            self.assertIs(serves(DESIRE, START, thing), False)
        for at, command in enumerate(SERVING):
            for other in ODD_THINGS + (
                list(command), command + (0,), command[:-1], (command,), ("Print",), ("set",), ("set", 0), ("set", 3, 0), ("set", -1, 0),
                ("set", 0, 10), ("set", 0, -1), ("set", True, 0), ("set", 0, True), ("set", 0.0, 2), ("set", 0, 2.0), ("set", "0", 0),
                ("set", None, 0), ("set", 0, None), ("reset", 0), ("print", 0), ("rest",), (b"print",), (["print"],), ("set", 0, 0, 0),
            ):
                self.assertIs(serves(DESIRE, START, put(SERVING, at, other)), False, other)
        # What is no command is none behind the last print, either.
        for other in ODD_THINGS + (
            ("set", 3, 0), ("set", -1, 0), ("set", 0, 10), ("set", 0, -1), ("set", True, 0), ("set", 0, True), ("set", 0.0, 2),
            ("set", 0), ("put", 0, 0), ("reset", 0, 0), ("print", 0, 0), ("reset", 0), ["reset"], ("Reset",), (("reset",),),
        ):
            self.assertIs(serves(DESIRE, START, SERVING + (other,)), False, other)

    def test_longest(self):
        self.assertTrue(serves(DESIRE, START, (("reset",),) * 990 + (("set", 0, 1),) + SERVING))
        self.assertFalse(serves(DESIRE, START, (("reset",),) * 991 + (("set", 0, 1),) + SERVING))

    def test_beside_going_on(self):
        chance = Random(231)
        found = {True: 0, False: 0}
        for _ in range(3000):
            desire, start = some_case(chance, 3, 2, 1)
            commands = list(program(desire, start))
            for _ in range(chance.randint(0, 2)):
                at = chance.randint(0, len(commands))
                if chance.random() < 0.5:
                    commands[at:at + 1] = []
                else:
                    commands.insert(at, chance.choice((("reset",), ("print",), ("set", 0, chance.randint(0, 1)))))
            wanted = serves_by_hand(desire, start, commands)
            found[wanted] += 1
            self.assertIs(serves(desire, start, tuple(commands)), wanted)
        self.assertTrue(min(found.values()) > 500, found)


class CommandsTest(unittest.TestCase):
    def test_named(self):
        self.assertEqual(fewest_commands(desire=DESIRE, start=START), 5)
        self.assertEqual(check_commands(desire=DESIRE, start=START, paper=PAPER), 5)
        commands, bounds, cost = commands_paper(desire=DESIRE, start=START)
        self.assertEqual((bounds, cost), ((2, 4, 5), 5))
        self.assertTrue(serves(DESIRE, START, program(desire=DESIRE, start=START)))
        self.assertEqual(commands_paper(((0, 0, 0),), (0, 0, 0)), ((("print",),), (), 0))
        self.assertEqual(commands_paper(((0, 0, 0),), (0, None, 0)), ((("set", 1, 0), ("print",)), (), 1))
        self.assertEqual(commands_paper(((0, 0, 0),), (1, None, 0)), ((("reset",), ("print",)), (), 1))

    def test_beside_trying(self):
        chance = Random(232)
        found = {}
        for _ in range(500):
            desire, start = some_case(chance)
            cost = cost_by_hand(desire, start)
            self.assertEqual(fewest_commands(desire, start), cost, (desire, start))
            commands = program(desire, start)
            self.assertTrue(serves(desire, start, commands) and serves_by_hand(desire, start, commands))
            self.assertEqual(sum(command[0] != "print" for command in commands), cost)
            self.assertEqual(program(desire, start), commands)
            paper = commands_paper(desire, start)
            self.assertEqual(paper, commands_paper(desire, start))
            self.assertTrue(serves(desire, start, paper[0]))
            self.assertEqual((len(paper[1]), paper[2]), (len(desire) - 1, cost))
            self.assertEqual(check_commands(desire, start, paper), cost)
            self.assertEqual(check_commands(desire, start, (commands, paper[1], cost)), cost)
            found[sum(command == ("reset",) for command in commands)] = True
        self.assertTrue(all(many in found for many in (0, 1, 2)), found)

    def test_more_resets(self):
        chance = Random(233)
        for _ in range(150):
            desire, start = some_case(chance, 9, 4, 1)
            cost = fewest_commands(desire, start)
            self.assertEqual(cost, cost_by_hand(desire, start))
            self.assertEqual(check_commands(desire, start, commands_paper(desire, start)), cost)

    def test_great(self):
        chance = Random(234)
        for most in (1, 3, 9):
            desire = tuple(some_want(chance, 6, most) for _ in range(60))
            start = some_want(chance, 6, most)
            commands, bounds, cost = paper = commands_paper(desire, start)
            self.assertEqual(check_commands(desire, start, paper), cost)
            self.assertEqual((fewest_commands(desire, start), program(desire, start)), (cost, commands))
            self.assertTrue(serves_by_hand(desire, start, commands))
        self.assertEqual(fewest_commands(GREAT, (None,) * 6), 6)
        # In turn all nines and all zeros: a "reset" for each of the latter.
        self.assertEqual(fewest_commands((GREAT[0], (0,) * 6) * 30, GREAT[0]), 29 * 6 + 30)


class PaperTest(unittest.TestCase):
    def refused(self, paper, part):
        with self.assertRaises(BadPaper, msg=paper) as caught:
            check_commands(DESIRE, START, paper)
        self.assertEqual(caught.exception.part, part, paper)

    def test_form(self):
        for paper in ODD_THINGS + (list(PAPER), PAPER[:2], PAPER + (None,)):
            self.refused(paper, "form")

    def test_program(self):
        for thing in ODD_THINGS + (list(SERVING), SERVING[1:], SERVING[:-1], SERVING + (("print",),), (("set", 3, 0),) + SERVING):
            self.refused((thing, None, 5), "program")
        for cost in ODD_THINGS + (4, 6, 5.0, "5"):
            self.refused((SERVING, None, cost), "program")
        # It is another program with another cost.
        self.refused(((("reset",),) + SERVING, PAPER[1], 5), "program")

    def test_bounds(self):
        for thing in ODD_THINGS + ([2, 4, 5], (2, 4), (2, 4, 5, 5), 2, (3, 4, 5), (2, 5, 5), (2, 4, 6), (2, 3, 5), (2, 4, 3), (-9, 4, 5)):
            self.refused((SERVING, thing, 5), "bounds")
        self.assertEqual(check_commands(DESIRE, START, (SERVING, (2, 4, 4), 5)), 5)
        for at in range(3):
            for item in ODD_THINGS + (float(PAPER[1][at]), str(PAPER[1][at])):
                self.refused((SERVING, put(PAPER[1], at, item), 5), "bounds")
        # The bounds of the least cost hold for no greater one.
        costly = (("set", 0, 7),) + (("set", 0, 1),) + SERVING
        for cost_bounds in (PAPER[1], (4, 6, 7), (2, 4, 6)):
            self.refused((costly, cost_bounds, 7), "bounds")

    def test_each_bound(self):
        chance = Random(235)
        found = {}
        for _ in range(150):
            desire, start = some_case(chance, 7)
            commands, bounds, cost = commands_paper(desire, start)
            for at, bound in enumerate(bounds):
                with self.assertRaises(BadPaper) as caught:
                    check_commands(desire, start, (commands, put(bounds, at, bound + 1), cost))
                self.assertEqual(caught.exception.part, "bounds")
                # A lower one may show as much, or no longer does.
                try:
                    self.assertEqual(check_commands(desire, start, (commands, put(bounds, at, bound - 1), cost)), cost)
                    found["lower"] = True
                except BadPaper as error:
                    self.assertEqual(error.part, "bounds")
                    found["too low"] = True
            worse = (("set", 0, 9), ("reset",)) + program(desire, (0,) * len(start))
            if len([command for command in worse if command[0] != "print"]) > cost:
                with self.assertRaises(BadPaper) as caught:
                    check_commands(desire, start, (worse, bounds, len(worse) - len(desire)))
                self.assertEqual(caught.exception.part, "bounds")
        self.assertEqual(len(found), 2)


class RoundsTest(unittest.TestCase):
    def test_beside_one_long_desire(self):
        chance = Random(236)
        found = {}
        for _ in range(300):
            desire, start = some_case(chance, 5, 4, chance.choice((1, 2)))
            for times in range(1, 9):
                cost = fewest_commands(desire * times, start)
                self.assertEqual(fewest_rounds(desire, start, times), cost, (desire, start, times))
            once = fewest_commands(desire, start)
            found[fewest_rounds(desire, start, 5) - 5 * once > 0, None in start] = True
        self.assertEqual(len(found), 4)

    def test_many_wants(self):
        chance = Random(237)
        for registers in (1, 4, 6):
            desire = tuple(some_want(chance, registers, 2) for _ in range(20))
            start = some_want(chance, registers, 2, 0.5)
            for times in (1, 2, 3):
                self.assertEqual(fewest_rounds(desire=desire, start=start, times=times), fewest_commands(desire * times, start))

    def test_great_times(self):
        chance = Random(238)
        for number in range(12):
            desire, start = some_case(chance, 6, 4, 1)
            if number == 0:
                desire, start = tuple(some_want(chance, 6, 9) for _ in range(20)), (None,) * 6
            # From some round on each more of them costs the same, over some rounds together.
            few = [fewest_rounds(desire, start, times) for times in range(1, 41)]
            for period in range(1, 9):
                if all(few[at + period] - few[at] == few[-1] - few[-1 - period] for at in range(20, 40 - period)):
                    break
            else:
                self.fail("no period")
            more = few[-1] - few[-1 - period]
            for times in (10 ** 30, 10 ** 30 - 1, 10 ** 9 + 7):
                ahead = 30 + (times - 30) % period
                self.assertEqual(fewest_rounds(desire, start, times), few[ahead - 1] + (times - ahead) // period * more)

    def test_named(self):
        desire = ((9, 9, 9), (0, 0, 0))
        self.assertEqual(fewest_rounds(desire, (9, 9, 9), 1), 1)
        self.assertEqual(fewest_rounds(desire, (9, 9, 9), 10 ** 30), 4 * 10 ** 30 - 3)
        self.assertEqual(fewest_rounds(desire, (None, 9, None), 10 ** 30), 4 * 10 ** 30 - 1)
        self.assertEqual(fewest_rounds(((None, None),), (None, 5), 10 ** 30), 0)
        self.assertEqual(fewest_rounds(((5,),), (None,), 10 ** 30), 1)


if __name__ == "__main__":
    unittest.main()
