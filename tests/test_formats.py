"""need_store, length_of, letter_at, many_of, first_of, many_before, label_with and letters: formats that recall others."""

import unittest
from random import Random

from labelhouse.errors import BadStore, OutOfPlace
from labelhouse.formats import (
    first_of, label_with, length_of, letter_at, letters, many_before, many_of, need_store,
)

from samples import ODD_THINGS, put

STORE = (("a", "b"), ((0, 3), "b", (0, 1), (0, 1)), ("c", (1, 2), "a"))
ROW = "cabababbababababababbababa"
# A thousand labels, then these again and again; each but the first recalls the one ahead.
GREAT = (("a", "a", "b", "a", "c"), ((0, 10 ** 9), "b"), ((1, 10 ** 9), "d", (0, 2)), ((2, 10 ** 9), (1, 3), "e", "a", (2, 5)))
DEEP = (("a", "b"),) + tuple(((number, 2), "abc"[number % 3], (number, 1)) for number in range(29))

STORE_FAULTS = tuple((thing, None, None) for thing in ODD_THINGS if not (isinstance(thing, tuple) and thing)) + (
    (list(STORE), None, None), ((("a",),) * 31, None, None), ("a", None, None), (("a", "b"), 0, None), ((None,) * 31, None, None),
) + tuple(
    (put(STORE, at, thing), at, None)
    for at in range(3) for thing in ODD_THINGS + ("ab", ["a"], ("a",) * 13, (None,) * 13, 0) if not (isinstance(thing, tuple) and 0 < len(thing) < 13)
) + tuple(
    (put(STORE, at, put(STORE[at], place, thing)), at, place)
    for at in range(3) for place in range(2) for thing in ODD_THINGS + (
        "ab", "A", "1", " ", b"a", ["a"], ("a",), (at, 1), (at + 1, 1), (-1, 1), (0, 0), (0, -1), (0, 10 ** 9 + 1), (0, 1, 1), [0, 1],
        (False, 1), (0, True), (0.0, 1), (0, 1.0), ("0", 1), (0, "1"), (None, 1), (0, None), ((0, 1),),
    )
) + (
    # The first format that is wrong, and its first wrong item.
    ((("a", "?"), ()), 0, 1), (((), ("?",)), 0, None), ((("?", "?"),), 0, 0), ((("a",), (None, (0, 0)), None), 1, 0),
    # LENGTHS of just 10 ** 30 labels are not too great; one more is.
    ((("a",) * 12, ((0, 10 ** 9),), ((1, 10 ** 9),), ((2, 10 ** 9),), ((3, 100),)), 4, None),
    ((("a",), ((0, 10 ** 9),), ((1, 10 ** 9),), ((2, 10 ** 9),), ((3, 1000),), ((4, 1), "a"), None), 5, None),
    ((("a",), ((0, 10 ** 9),), ((1, 10 ** 9),), ((2, 10 ** 9),), ((3, 10 ** 9),), ("?",)), 4, None),
)
FULL = (("a",), ((0, 10 ** 9),), ((1, 10 ** 9),), ((2, 10 ** 9),), ((3, 1000),), ((4, 1),))
CALLS = (
    (need_store, ()), (length_of, (None,)), (letter_at, (None, None)), (many_of, (None, None)), (first_of, (None, None)),
    (many_before, (None, None, None)), (label_with, (None, None, None)), (letters, (None, None, None)),
)
NO_LETTERS = ODD_THINGS + ("ab", "A", "1", " ", "{", "`", ("a",), 97)
NO_PATTERNS = ODD_THINGS + ("a" * 9, "aB", "a b", "1", "A", "a\n", ("a", "b"))


def some_store(chance, many=None, most=3, alphabet="ab"):
    """A STORE of small FORMATS; those recalled are recalled up to so many times."""
    many = chance.randint(1, 5) if many is None else many
    found = []
    for number in range(many):
        parts = []
        for _ in range(chance.randint(1, 4)):
            if number and chance.random() < 0.55:
                parts.append((chance.randrange(number), chance.randint(1, most)))
            else:
                parts.append(chance.choice(alphabet))
        found.append(tuple(parts))
    return tuple(found)


def row_of(store, number):
    """The plain row of letters."""
    return "".join(item if isinstance(item, str) else row_of(store, item[0]) * item[1] for item in store[number])


def places_of(row, pattern):
    return [at for at in range(len(row)) if row.startswith(pattern, at)]


class StoreTest(unittest.TestCase):
    def test_gives_it_back(self):
        for store in (STORE, GREAT, DEEP, FULL, (("a",) * 12,), (("z",),) * 30):
            self.assertIs(need_store(store), store)
        self.assertIs(need_store(thing=STORE), STORE)
        self.assertEqual(length_of(FULL, 5), 10 ** 30)

    def test_faults(self):
        for call, rest in CALLS:
            for thing, number, item in STORE_FAULTS:
                with self.assertRaises(BadStore, msg=thing) as caught:
                    call(thing, *rest)
                self.assertEqual((caught.exception.number, caught.exception.item), (number, item), thing)


class SmallStoresTest(unittest.TestCase):
    def test_named(self):
        self.assertEqual(row_of(STORE, 2), ROW[:1] + "ab" * 3 + "b" + "abab" + "ab" * 3 + "b" + "abab" + "a")
        row = row_of(STORE, 2)
        self.assertEqual(length_of(store=STORE, number=2), len(row))
        self.assertEqual(letter_at(store=STORE, number=2, label=7), "b")
        self.assertEqual(many_of(store=STORE, number=2, pattern="bba"), 2)
        self.assertEqual(first_of(store=STORE, number=2, pattern="bba"), 6)
        self.assertEqual(many_before(store=STORE, number=2, letter="b", label=8), 4)
        self.assertEqual(label_with(store=STORE, number=2, letter="b", count=3), 7)
        self.assertEqual(letters(store=STORE, number=2, first=5, many=4), "abba")

    def test_beside_the_row(self):
        chance = Random(241)
        for _ in range(150):
            store = some_store(chance, alphabet="aab")
            number = chance.randrange(len(store))
            row = row_of(store, number)
            self.assertEqual(length_of(store, number), len(row))
            self.assertEqual("".join(letter_at(store, number, label) for label in range(len(row))), row)
            for letter in "abz":
                self.assertEqual(
                    [many_before(store, number, letter, label) for label in range(len(row) + 1)],
                    [row[:label].count(letter) for label in range(len(row) + 1)],
                )
                places = places_of(row, letter)
                self.assertEqual(
                    [label_with(store, number, letter, count) for count in range(len(places) + 2)], places + [None, None]
                )
                self.assertIsNone(label_with(store, number, letter, 10 ** 900))
            for _ in range(20):
                first = chance.randint(0, len(row))
                many = chance.randint(0, min(1000, len(row) - first))
                self.assertEqual(letters(store, number, first, many), row[first:first + many])
            self.assertEqual(letters(store, number, len(row), 0), "")

    def test_patterns(self):
        chance = Random(242)
        found = {}
        for _ in range(250):
            store = some_store(chance, alphabet=chance.choice(("a", "ab", "abc")))
            number = chance.randrange(len(store))
            row = row_of(store, number)
            patterns = ["a", "ab", "aa", "aba", "abab", "aabaab", "aaaaaaaa", "abaababa", "z"]
            for _ in range(12):
                at = chance.randrange(len(row))
                patterns.append(row[at:at + chance.randint(1, 8)])
            for pattern in patterns:
                places = places_of(row, pattern)
                self.assertEqual(many_of(store, number, pattern), len(places), (store, number, pattern))
                self.assertEqual(first_of(store, number, pattern), places[0] if places else None, (store, number, pattern))
                found[bool(places), any(one + len(pattern) > other for one, other in zip(places, places[1:]))] = True
        self.assertEqual(len(found), 3)

    def test_first_behind_some_rounds(self):
        # The pattern stands across many recalls of what is shorter than it.
        for pattern in ("aaaaaaaa", "aaaaaaab", "aaab"):
            for times in range(1, 12):
                store = (("a",), ((0, times),), ((1, 2), "b"))
                row = row_of(store, 2)
                self.assertEqual(first_of(store, 2, pattern), row.find(pattern) if pattern in row else None)
                self.assertEqual(many_of(store, 2, pattern), len(places_of(row, pattern)))
        store = (("a", "b"), ((0, 10 ** 9), "b"), ((1, 10 ** 9),))
        self.assertEqual(first_of(store, 2, "abbabab"), 2 * 10 ** 9 - 2)
        self.assertEqual(many_of(store, 2, "bb"), 10 ** 9)
        self.assertIsNone(first_of(store, 2, "abbb"))
        self.assertIsNone(first_of(store, 1, "bba"))
        self.assertEqual(first_of(store, 1, "bb"), 2 * 10 ** 9 - 1)

    def test_all_patterns_of_deep_ones(self):
        store = DEEP[:9]
        row = row_of(store, 8)
        for many in (2, 3, 5, 8):
            seen = {}
            for at in range(len(row) - many + 1):
                seen.setdefault(row[at:at + many], []).append(at)
            for pattern, places in seen.items():
                self.assertEqual(many_of(store, 8, pattern), len(places))
                self.assertEqual(first_of(store, 8, pattern), places[0])


class GreatStoresTest(unittest.TestCase):
    def test_there_and_back(self):
        chance = Random(243)
        for store, number in ((GREAT, 3), (DEEP, 29), (FULL, 5), (GREAT, 1)):
            length = length_of(store, number)
            totals = {letter: many_before(store, number, letter, length) for letter in "abcde"}
            self.assertEqual(sum(totals.values()), length)
            for letter, total in totals.items():
                self.assertEqual(many_of(store, number, letter), total)
                self.assertIsNone(label_with(store, number, letter, total))
                self.assertEqual(first_of(store, number, letter), label_with(store, number, letter, 0))
                for count in [0, total - 1] + [chance.randrange(total) for _ in range(30)] if total else []:
                    label = label_with(store, number, letter, count)
                    self.assertEqual(letter_at(store, number, label), letter)
                    self.assertEqual(many_before(store, number, letter, label), count)
                    self.assertEqual(many_before(store, number, letter, label + 1), count + 1)

    def test_letters(self):
        chance = Random(244)
        for store, number in ((GREAT, 3), (DEEP, 29)):
            length = length_of(store, number)
            for first in [0, length - 1000] + [chance.randrange(length - 1000) for _ in range(3)]:
                row = letters(store, number, first, 1000)
                self.assertEqual(row, "".join(letter_at(store, number, first + at) for at in range(1000)))
                for letter in "abcde":
                    more = many_before(store, number, letter, first + 1000) - many_before(store, number, letter, first)
                    self.assertEqual(more, row.count(letter))
            self.assertEqual(letters(store, number, length, 0), "")
            self.assertEqual(letters(store, number, length - 3, 3), letters(store, number, length - 1000, 1000)[-3:])

    def test_patterns(self):
        self.assertEqual(length_of(GREAT, 2), (5 * 10 ** 9 + 1) * 10 ** 9 + 11)
        self.assertEqual(many_of(GREAT, 2, "aabacbaa"), 10 ** 9 - 1)
        self.assertEqual(first_of(GREAT, 2, "aabacbaa"), 5 * 10 ** 9 - 5)
        self.assertEqual(many_of(GREAT, 2, "caabaca"), (10 ** 9 - 2) * 10 ** 9)
        self.assertEqual(many_of(GREAT, 2, "cb"), 10 ** 9)
        self.assertEqual(first_of(GREAT, 2, "cbd"), 5 * 10 ** 18 + 10 ** 9 - 2)
        self.assertEqual(many_of(GREAT, 3, "ea"), 1)
        for pattern in ("ea", "cbda", "acbaabac", "cbea", "bd"):
            label = first_of(GREAT, 3, pattern)
            self.assertEqual(letters(GREAT, 3, label, len(pattern)), pattern)
            self.assertNotIn(pattern, letters(GREAT, 3, max(0, label - 990), min(label, 990) + len(pattern) - 1))
        # As many as the letters themselves are, with what stands at the end left out.
        self.assertEqual(many_of(FULL, 5, "aaaaaaaa"), 10 ** 30 - 7)
        self.assertEqual(first_of(FULL, 5, "aaaaaaaa"), 0)

    def test_patterns_by_their_parts(self):
        chance = Random(245)
        for _ in range(30):
            store = some_store(chance, 6, 10 ** 4, "ab")
            for many in (1, 4, 7):
                pattern = letters(store, 5, chance.randrange(max(1, length_of(store, 5) - 20)), min(many, length_of(store, 5)))
                # Each place of a pattern that is not at the end is one of it with one letter more.
                ending = letters(store, 5, length_of(store, 5) - len(pattern), len(pattern)) == pattern
                more = sum(many_of(store, 5, pattern + letter) for letter in "ab")
                self.assertEqual(many_of(store, 5, pattern), more + ending)
                label = first_of(store, 5, pattern)
                self.assertEqual(letters(store, 5, label, len(pattern)), pattern)


class RefusalsTest(unittest.TestCase):
    def test_numbers(self):
        for call, rest in CALLS[1:]:
            for number in ODD_THINGS + (-1, 3, "0"):
                with self.assertRaises(OutOfPlace, msg=number):
                    call(STORE, number, *rest[1:])

    def test_labels(self):
        length = length_of(STORE, 2)
        for label in ODD_THINGS + (-1, length, "0"):
            with self.assertRaises(OutOfPlace):
                letter_at(STORE, 2, label)
        for label in ODD_THINGS + (-1, length + 1, "0"):
            with self.assertRaises(OutOfPlace):
                many_before(STORE, 2, "a", label)
        self.assertEqual(many_before(STORE, 2, "c", length), 1)

    def test_letters_and_patterns(self):
        for letter in NO_LETTERS:
            for call in (many_before, label_with):
                with self.assertRaises(OutOfPlace):
                    call(STORE, 2, letter, None)
                with self.assertRaises(OutOfPlace):
                    call(STORE, 2, letter, 0)
        for pattern in NO_PATTERNS:
            for call in (many_of, first_of):
                with self.assertRaises(OutOfPlace, msg=pattern):
                    call(STORE, 2, pattern)

    def test_counts(self):
        for count in ODD_THINGS[:-2] + (-1, -10 ** 900, "0"):
            with self.assertRaises(OutOfPlace):
                label_with(STORE, 2, "a", count)
            # Also where no label has the letter.
            with self.assertRaises(OutOfPlace):
                label_with(STORE, 2, "z", count)

    def test_stretches(self):
        length = length_of(STORE, 2)
        for first in ODD_THINGS + (-1, length + 1, "0"):
            with self.assertRaises(OutOfPlace):
                letters(STORE, 2, first, 0)
        for many in ODD_THINGS + (-1, length + 1, 1001, "0"):
            with self.assertRaises(OutOfPlace):
                letters(STORE, 2, 0, many)
        for first in range(length + 1):
            with self.assertRaises(OutOfPlace):
                letters(STORE, 2, first, length - first + 1)
        with self.assertRaises(OutOfPlace):
            letters(FULL, 5, 0, 1001)
        self.assertEqual(letters(FULL, 5, 0, 1000), "a" * 1000)


if __name__ == "__main__":
    unittest.main()
