"""need_lengths, fewest_rolls, split, rolls_paper, check_rolls and least_length: labels on rolls."""

import unittest
from random import Random

from labelhouse.errors import BadLengths, BadPaper, OutOfPlace
from labelhouse.rolls import check_rolls, fewest_rolls, least_length, need_lengths, rolls_paper, split

from samples import ODD_THINGS, put

LENGTHS = (3, 1, 4, 1, 5, 2)
GREAT = (10 ** 9,) * 200
LENGTHS_FAULTS = tuple((thing, None) for thing in ODD_THINGS if not isinstance(thing, tuple) or thing == ()) + (
    ([3, 1], None), (3, None), (GREAT + (1,), None), ((None,) * 201, None),
) + tuple(
    (put(LENGTHS, at, thing), at) for at in (0, 3, 5) for thing in ODD_THINGS + (0, -1, 10 ** 9 + 1, "1")
) + (((0, 0), 0), ((1, 0, None), 1), ((1, 2, 10 ** 9, 10 ** 9 + 1), 3))
CALLS = (
    (need_lengths, ()), (fewest_rolls, (None,)), (split, (None,)), (rolls_paper, (None,)), (check_rolls, (None, None)),
    (least_length, (None,)),
)


def splits_by_hand(lengths, length):
    """All SPLITS."""
    if not lengths:
        return [()]
    return [
        (many,) + rest for many in range(1, len(lengths) + 1) if sum(lengths[:many]) <= length
        for rest in splits_by_hand(lengths[many:], length)
    ]


def some_lengths(chance, many, most):
    return tuple(chance.randint(1, most) for _ in range(many))


class LengthsTest(unittest.TestCase):
    def test_gives_them_back(self):
        for lengths in ((1,), LENGTHS, GREAT):
            self.assertIs(need_lengths(lengths), lengths)
        self.assertIs(need_lengths(thing=LENGTHS), LENGTHS)

    def test_first_wrong_one(self):
        for call, rest in CALLS:
            for thing, number in LENGTHS_FAULTS:
                with self.assertRaises(BadLengths, msg=thing) as caught:
                    call(thing, *rest)
                self.assertEqual(caught.exception.number, number, thing)

    def test_length(self):
        for call, rest in ((fewest_rolls, ()), (split, ()), (rolls_paper, ()), (check_rolls, (None,))):
            for length in ODD_THINGS + (0, -1, 4, 10 ** 9 + 1, "5"):
                with self.assertRaises(OutOfPlace, msg=length):
                    call(LENGTHS, length, *rest)
        self.assertEqual(fewest_rolls(LENGTHS, 10 ** 9), 1)
        self.assertEqual(fewest_rolls(LENGTHS, 5), 4)

    def test_many(self):
        for many in ODD_THINGS[:-2] + (-10 ** 900, 0, -1, "1"):
            with self.assertRaises(OutOfPlace, msg=many):
                least_length(LENGTHS, many)


class SmallRollsTest(unittest.TestCase):
    def test_beside_all_splits(self):
        chance = Random(221)
        found = set()
        for _ in range(300):
            lengths = some_lengths(chance, chance.randint(1, 9), chance.choice((1, 3, 9)))
            length = chance.randint(max(lengths), max(lengths) * 3)
            splits = splits_by_hand(lengths, length)
            fewest = min(len(parts) for parts in splits)
            self.assertEqual(fewest_rolls(lengths, length), fewest)
            parts = split(lengths, length)
            self.assertIn(parts, splits)
            self.assertEqual(len(parts), fewest)
            self.assertEqual(split(lengths, length), parts)
            paper = rolls_paper(lengths, length)
            self.assertEqual(rolls_paper(lengths, length), paper)
            self.assertEqual(check_rolls(lengths, length, paper), fewest)
            for other in splits:
                if len(other) == fewest:
                    self.assertEqual(check_rolls(lengths, length, (other, paper[1])), fewest)
                else:
                    # More rolls than are needed: no stops can show that they are.
                    begun = tuple(sum(other[:at]) for at in range(len(other)))
                    for stops in (paper[1], begun):
                        with self.assertRaises(BadPaper) as caught:
                            check_rolls(lengths, length, (other, stops))
                        self.assertEqual(caught.exception.part, "stops")
            found.add(fewest)
        self.assertTrue({1, 2, 3, 4} <= found)

    def test_least_length(self):
        chance = Random(222)
        for _ in range(300):
            lengths = some_lengths(chance, chance.randint(1, 9), chance.choice((1, 3, 12)))
            for many in range(1, len(lengths) + 3):
                length = max(lengths)
                while min(len(parts) for parts in splits_by_hand(lengths, length)) > many:
                    length += 1
                self.assertEqual(least_length(lengths, many), length)
            self.assertEqual(least_length(lengths, 1), sum(lengths))
            self.assertEqual(least_length(lengths, 10 ** 900), max(lengths))

    def test_named(self):
        self.assertEqual(fewest_rolls(lengths=LENGTHS, length=8), 2)
        self.assertEqual(split(lengths=LENGTHS, length=8), (3, 3))
        self.assertEqual(rolls_paper(lengths=LENGTHS, length=8), ((3, 3), (0, 3)))
        self.assertEqual(check_rolls(lengths=LENGTHS, length=8, paper=((3, 3), (0, 3))), 2)
        self.assertEqual([least_length(LENGTHS, many) for many in (1, 2, 3, 4, 5, 6, 7)], [16, 8, 7, 5, 5, 5, 5])
        self.assertEqual(least_length(lengths=LENGTHS, many=2), 8)


class GreatRollsTest(unittest.TestCase):
    def test_two_hundred_labels(self):
        chance = Random(223)
        for most in (10 ** 9, 1000):
            lengths = some_lengths(chance, 200, most)
            for many in (1, 2, 3, 7, 50, 120, 199, 200, 201):
                length = least_length(lengths, many)
                if length <= 10 ** 9:
                    self.assertLessEqual(fewest_rolls(lengths, length), many)
                    self.assertEqual(check_rolls(lengths, length, rolls_paper(lengths, length)), fewest_rolls(lengths, length))
                if max(lengths) < length <= 10 ** 9:
                    self.assertGreater(fewest_rolls(lengths, length - 1), many)
        # The least length may be greater than a roll.
        self.assertEqual([least_length(GREAT, many) for many in (1, 3, 199, 200)], [2 * 10 ** 11, 67 * 10 ** 9, 2 * 10 ** 9, 10 ** 9])
        self.assertEqual((fewest_rolls(GREAT, 10 ** 9), split(GREAT, 10 ** 9)), (200, (1,) * 200))
        self.assertEqual(rolls_paper(GREAT, 10 ** 9)[1], tuple(range(200)))
        self.assertEqual(rolls_paper((1,) * 200, 10 ** 9), ((200,), (0,)))


class PaperTest(unittest.TestCase):
    LENGTH = 7

    def refused(self, paper, part):
        with self.assertRaises(BadPaper, msg=paper) as caught:
            check_rolls(LENGTHS, self.LENGTH, paper)
        self.assertEqual(caught.exception.part, part, paper)

    def test_form(self):
        parts, stops = rolls_paper(LENGTHS, self.LENGTH)
        self.assertEqual((parts, stops), ((2, 2, 2), (0, 2, 4)))
        for paper in ODD_THINGS + ([parts, stops], (parts,), (parts, stops, stops)):
            if not (isinstance(paper, tuple) and len(paper) == 2):
                self.refused(paper, "form")

    def test_split(self):
        for parts in ODD_THINGS + (
            [2, 2, 2], (2, 2), (2, 2, 1), (2, 2, 3), (2, 2, 2, 1), (2, 2, 2, 0), (0, 2, 2, 2), (3, 1, 2), (2, 1, 3), (6,), 6,
            (2, 4), (-1, 3, 2, 2), (2, 2.0, 2), (2, "2", 2), (1, 1, True, 1, 2), (2, None, 2), (2, 2, (1, 1)),
        ):
            self.refused((parts, None), "split")

    def test_stops(self):
        parts = (2, 2, 2)
        for stops in ODD_THINGS + (
            [0, 2, 4], (0, 2), (0, 2, 4, 5), (0, 1, 4), (0, 2, 3), (1, 2, 4), (0, 4, 2), (0, 0, 4), (0, 2, 2), (0, 2, 6),
            (-1, 2, 4), (0, 2, 4.0), (0, "2", 4), (False, 2, 4), (0, None, 4), (2, 4, 5), (0, 2, (4,)),
        ):
            self.refused((parts, stops), "stops")
        for stops in ((0, 2, 4), (0, 2, 5), (0, 3, 5)):
            self.assertEqual(check_rolls(LENGTHS, self.LENGTH, (parts, stops)), 3)
        self.assertEqual(check_rolls(LENGTHS, self.LENGTH, ((1, 3, 2), (0, 2, 4))), 3)
        # The first one is 0, even if those behind it show as much.
        self.assertEqual(check_rolls((1, 5, 5), 6, ((2, 1), (0, 2))), 2)
        with self.assertRaises(BadPaper) as caught:
            check_rolls((1, 5, 5), 6, ((2, 1), (1, 2)))
        self.assertEqual(caught.exception.part, "stops")


if __name__ == "__main__":
    unittest.main()
