"""need_counter, size, text_at and number_of: dials, and the texts that they show."""

import unittest
from itertools import product
from random import Random

from labelhouse.counters import need_counter, number_of, size, text_at
from labelhouse.errors import BadCounter, OutOfPlace

from samples import ODD_THINGS, put

LETTERS = "ABCDEFGHIJKLMNOPQRSTUVWXYZ0123456789"
GREAT = (LETTERS,) * 12
COUNTER = ("ab", "xyz", "!~")

NO_DIALS = tuple(thing for thing in ODD_THINGS if thing not in ("set ", "Set", "AB")) + (
    "a", "aa", "aba", "a b", " a", "a%", "%", "ab\n", "a\x7f", "\u00e9a", "a\t", LETTERS + "a", ("a", "b"), ["a", "b"], b"ab",
    "".join(chr(sign) for sign in range(33, 127) if sign != 37), 12,
)

# What is no COUNTER, and the number with which it is refused.
COUNTER_FAULTS = tuple((thing, None) for thing in ODD_THINGS if not isinstance(thing, tuple) or not thing) + (
    (list(COUNTER), None), ("ab", None), (("ab",) * 13, None), ((None,) * 13, None), ((None,), 0), (((),), 0), ((1,), 0),
    (("ab", None, None), 1), (("ab", "xx"), 1), (COUNTER + ("a",), 3), (("ab",) * 11 + ("",), 11),
)


def some_counter(chance, most=3, signs=4):
    return tuple("".join(chance.sample(LETTERS, chance.randint(2, signs))) for _ in range(chance.randint(1, most)))


def texts_by_turning(counter):
    """All TEXTS in their order, each by turning the last dial, and the one ahead when it comes round."""
    worths = [0] * len(counter)
    found = []
    while True:
        found.append("".join(dial[worth] for dial, worth in zip(counter, worths)))
        at = len(counter) - 1
        while at >= 0 and worths[at] == len(counter[at]) - 1:
            worths[at] = 0
            at -= 1
        if at < 0:
            return found
        worths[at] += 1


class CounterTest(unittest.TestCase):
    def test_gives_it_back(self):
        for counter in (COUNTER, GREAT, ("ab",), (LETTERS,), ("&$#", "\"'"), ("aA", "ab", "ab"), ("!~",) * 12):
            self.assertIs(need_counter(counter), counter)
        self.assertIs(need_counter(thing=COUNTER), COUNTER)

    def test_what_is_none(self):
        for call, rest in ((need_counter, ()), (size, ()), (text_at, (None,)), (number_of, (None,))):
            for thing, number in COUNTER_FAULTS:
                with self.assertRaises(BadCounter, msg=thing) as caught:
                    call(thing, *rest)
                self.assertEqual(caught.exception.number, number)

    def test_what_is_no_dial(self):
        for dial in NO_DIALS:
            for at in range(3):
                with self.assertRaises(BadCounter, msg=dial) as caught:
                    need_counter(put(COUNTER, at, dial))
                self.assertEqual(caught.exception.number, at)
            with self.assertRaises(BadCounter) as caught:
                need_counter(("ab", dial, None))
            self.assertEqual(caught.exception.number, 1)

    def test_every_sign(self):
        for sign in map(chr, range(0, 300)):
            if "!" <= sign <= "~" and sign != "%":
                need_counter((("a" if sign != "a" else "b") + sign,))
            else:
                with self.assertRaises(BadCounter):
                    need_counter(("a" + sign,))


class TextsTest(unittest.TestCase):
    def check(self, counter):
        found = texts_by_turning(counter)
        self.assertEqual(size(counter), len(found))
        for number, text in enumerate(found):
            self.assertEqual(text_at(counter, number), text)
            self.assertEqual(number_of(counter, text), number)
        self.assertEqual(found, ["".join(row) for row in product(*counter)])

    def test_beside_turning_the_dials(self):
        chance = Random(81)
        for counter in (COUNTER, ("ab",), (LETTERS,), ("10", "01"), ("ab", "ab", "ab", "ab", "ab")):
            self.check(counter)
        for _ in range(60):
            self.check(some_counter(chance))

    def test_great_ones(self):
        self.assertEqual(size(GREAT), 36 ** 12)
        self.assertEqual(text_at(GREAT, 0), "A" * 12)
        self.assertEqual(text_at(GREAT, 36 ** 12 - 1), "9" * 12)
        self.assertEqual(text_at(GREAT, 36 ** 11 + 37), "BAAAAAAAAABB")
        self.assertEqual(number_of(GREAT, "BAAAAAAAAABB"), 36 ** 11 + 37)
        chance = Random(82)
        for _ in range(100):
            number = chance.randrange(36 ** 12)
            self.assertEqual(number_of(GREAT, text_at(GREAT, number)), number)
        self.assertEqual(size(counter=COUNTER), 12)
        self.assertEqual(text_at(counter=COUNTER, number=11), "bz~")
        self.assertEqual(number_of(counter=COUNTER, text="bz~"), 11)

    def test_refusals(self):
        for number in ODD_THINGS + (-1, 12, 13, 10 ** 30, "1"):
            with self.assertRaises(OutOfPlace):
                text_at(COUNTER, number)
        for text in ODD_THINGS + ("ax", "ax!!", "a!x", "ay\n", "cx!", "aw!", "ax ", "AX!", ("a", "x", "!"), ["ax!"], b"ax!", 0):
            with self.assertRaises(OutOfPlace, msg=text):
                number_of(COUNTER, text)


if __name__ == "__main__":
    unittest.main()
