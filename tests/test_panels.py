"""shown, comes_back and meet: panels of two hands."""

import unittest
from math import lcm
from random import Random

from labelhouse.counters import number_of, size, text_at
from labelhouse.errors import OutOfPlace
from labelhouse.panels import comes_back, meet, shown
from labelhouse.runs import round_of

from samples import ODD_THINGS, put
from test_counters import COUNTER, COUNTER_FAULTS, GREAT, some_counter

HAND = (COUNTER, 5, -7, 3)
PANEL = (HAND, (("abc",), 1, 1, 2))

NO_HANDS = ODD_THINGS + (list(HAND), HAND[:3], HAND + (1,)) + tuple(
    put(HAND, 0, counter) for counter, _ in COUNTER_FAULTS
) + tuple(
    put(HAND, at, thing)
    for at, edges in ((1, (-1, 12)), (2, (-10 ** 18 - 1, 10 ** 18 + 1)), (3, (0, -1, 10 ** 6 + 1)))
    for thing in ODD_THINGS + edges + ("1",)
)
NO_PANELS = ODD_THINGS + (list(PANEL), PANEL[:1], PANEL + (HAND,), HAND) + tuple(
    put(PANEL, at, hand) for at in (0, 1) for hand in NO_HANDS
)


def some_hand(chance):
    counter = some_counter(chance, 2, 3)
    step = chance.choice((chance.randint(-20, 20), chance.randint(-3, 3), 0, size(counter)))
    return counter, chance.randrange(size(counter)), step, chance.randint(1, 7)


def texts_of_hand(hand, many):
    """What a hand shows label by label."""
    counter, begin, step, every = hand
    found = []
    number, held = begin, 0
    for _ in range(many):
        found.append(text_at(counter, number))
        held += 1
        if held == every:
            number, held = (number + step) % size(counter), 0
    return found


def back_by_hand(panel):
    """Going on label by label until both hands stand as at first, to the label."""
    stands = [(begin, 0) for _, begin, _, _ in panel]
    first = list(stands)
    label = 0
    while True:
        label += 1
        for at, (counter, _, step, every) in enumerate(panel):
            number, held = stands[at]
            stands[at] = (number, held + 1) if held + 1 < every else ((number + step) % size(counter), 0)
        if stands == first:
            return label


class SmallPanelsTest(unittest.TestCase):
    def test_beside_going_on(self):
        chance = Random(111)
        found = {}
        for _ in range(120):
            panel = (some_hand(chance), some_hand(chance))
            back = comes_back(panel)
            self.assertEqual(back, back_by_hand(panel))
            texts = list(zip(texts_of_hand(panel[0], back + 5), texts_of_hand(panel[1], back + 5)))
            self.assertEqual([shown(panel, number) for number in range(back + 5)], texts)
            first_at = {}
            for number, pair in enumerate(texts[:back]):
                first_at.setdefault(pair, number)
            for one in range(size(panel[0][0])):
                for other in range(size(panel[1][0])):
                    pair = (text_at(panel[0][0], one), text_at(panel[1][0], other))
                    self.assertEqual(meet(panel, *pair), first_at.get(pair), (panel, pair))
                    found[first_at.get(pair) is None] = True
        self.assertEqual(len(found), 2)

    def test_by_hand(self):
        panel = ((("ab",), 0, 1, 2), (("xyz",), 2, -1, 1))
        self.assertEqual([shown(panel, number) for number in range(7)], [
            ("a", "z"), ("a", "y"), ("b", "x"), ("b", "z"), ("a", "y"), ("a", "x"), ("b", "z"),
        ])
        self.assertEqual(comes_back(panel), 12)
        self.assertEqual((meet(panel, "a", "z"), meet(panel, "a", "x"), meet(panel, "b", "y")), (0, 5, 7))
        self.assertEqual(comes_back(((("ab",), 0, 0, 4), (("ab",), 0, 2, 6))), 12)
        self.assertEqual(comes_back(((("ab",), 0, 0, 1), (("ab",), 0, 2, 1))), 1)
        self.assertEqual((shown(panel=panel, number=5), comes_back(panel=panel)), (("a", "x"), 12))
        self.assertEqual(meet(panel=panel, first="a", second="x"), 5)

    def test_never(self):
        self.assertIsNone(meet(((("ab",), 0, 0, 1), (("ab",), 0, 1, 1)), "b", "b"))
        self.assertIsNone(meet(((("abcd",), 0, 2, 1), (("ab",), 0, 1, 1)), "b", "b"))
        # Both are shown, but never at one label.
        panel = ((("ab",), 0, 1, 1), (("ab",), 0, 1, 1))
        self.assertIsNone(meet(panel, "a", "b"))
        self.assertEqual(meet(panel, "b", "b"), 1)
        self.assertIsNone(meet(((("ab",), 0, 1, 3), (("abcd",), 0, 1, 3)), "a", "b"))

    def test_refusals(self):
        for call, rest in ((shown, (None,)), (comes_back, ()), (meet, (None, None))):
            for thing in NO_PANELS:
                with self.assertRaises(OutOfPlace, msg=thing):
                    call(thing, *rest)
        for thing in NO_PANELS:
            with self.assertRaises(OutOfPlace, msg=thing):
                shown(thing, 0)
        for number in ODD_THINGS + (-1, 10 ** 40 + 1, "0"):
            with self.assertRaises(OutOfPlace):
                shown(PANEL, number)
        for text in ODD_THINGS + ("a", "ax!!", "aw!", ("a", "x", "!")):
            with self.assertRaises(OutOfPlace, msg=text):
                meet(PANEL, text, "a")
        for text in ODD_THINGS + ("d", "ax!", "aa", ("a",)):
            with self.assertRaises(OutOfPlace, msg=text):
                meet(PANEL, "ax!", text)


class GreatPanelsTest(unittest.TestCase):
    def some_panel(self, chance):
        return tuple(
            (
                GREAT, chance.randrange(36 ** 12), chance.choice((10 ** 18, -10 ** 18, 1, 36 ** 9, chance.randint(-10 ** 18, 10 ** 18))),
                chance.choice((1, 10 ** 6, chance.randint(1, 10 ** 6))),
            )
            for _ in range(2)
        )

    def test_shown(self):
        chance = Random(112)
        for _ in range(100):
            panel = self.some_panel(chance)
            for number in (0, 10 ** 40, chance.randint(0, 10 ** 40)):
                wanted = tuple(
                    text_at(GREAT, (begin + number // every * step) % 36 ** 12) for _, begin, step, every in panel
                )
                self.assertEqual(shown(panel, number), wanted)

    def test_comes_back(self):
        chance = Random(113)
        for _ in range(100):
            panel = self.some_panel(chance)
            turns = [every * round_of((counter, begin, step, 1, 1)) for counter, begin, step, every in panel]
            back = comes_back(panel)
            self.assertEqual(back, lcm(*turns))
            number = chance.randint(0, 10 ** 20)
            if number + back <= 10 ** 40:
                self.assertEqual(shown(panel, number), shown(panel, number + back))

    def test_meet(self):
        chance = Random(114)
        for _ in range(150):
            panel = self.some_panel(chance)
            number = chance.randint(0, 10 ** 40)
            first, second = shown(panel, number)
            label = meet(panel, first, second)
            self.assertTrue(0 <= label <= number)
            self.assertEqual(shown(panel, label), (first, second))
            # It is the first label of what one of the hands shows, if not the very first one.
            if label > 0:
                self.assertNotEqual(shown(panel, label - 1), (first, second))

    def test_meet_is_the_least(self):
        every = 10 ** 6
        panel = ((GREAT, 0, 1, every), (GREAT, 0, 1, every - 1))
        # The second hand is ahead by one text more behind about every million texts.
        for ahead in (0, 1, 2, 9):
            label = meet(panel, text_at(GREAT, 10 ** 6 + 5), text_at(GREAT, 10 ** 6 + 5 + ahead))
            wanted = [
                number
                for number in range((10 ** 6 + 5) * every, (10 ** 6 + 6) * every, every // 2)
                if number // (every - 1) == 10 ** 6 + 5 + ahead
            ]
            if wanted:
                self.assertLessEqual(label, wanted[0])
                self.assertEqual(shown(panel, label), shown(panel, wanted[0]))
        self.assertEqual(meet(panel, text_at(GREAT, 7), text_at(GREAT, 7)), 7 * every)
        self.assertEqual(meet(panel, text_at(GREAT, 7), text_at(GREAT, 8)), 8 * (every - 1))

    def test_never(self):
        panel = ((GREAT, 0, 36 ** 6, 10 ** 6), (GREAT, 1, 36 ** 6, 10 ** 6))
        self.assertIsNone(meet(panel, text_at(GREAT, 1), text_at(GREAT, 1)))
        self.assertIsNone(meet(panel, text_at(GREAT, 0), text_at(GREAT, 1 + 36 ** 6)))
        self.assertEqual(meet(panel, text_at(GREAT, 36 ** 7), text_at(GREAT, 1 + 36 ** 7)), 36 * 10 ** 6)
        self.assertEqual(number_of(GREAT, shown(panel, 36 * 10 ** 6)[1]), 1 + 36 ** 7)


if __name__ == "__main__":
    unittest.main()
