"""check_sign, differing, least_damage, damage_paper and check_damage: how much damage bars bear."""

import unittest
from itertools import product
from random import Random

from labelhouse.bars import bars
from labelhouse.damage import check_damage, check_sign, damage_paper, differing, least_damage
from labelhouse.errors import BadBook, BadPaper, OutOfPlace, TooGreat

from samples import ODD_THINGS, put
from test_bars import BOOK_FAULTS, SIGNS, many_words

BOOK = ("11", "1", (("A", "0000"), ("B", "0011"), ("C", "0101")))
TEN = ("110", "011", tuple(zip("0123456789", (
    "00110", "10001", "01001", "11000", "00101", "10100", "01100", "00011", "10010", "01010",
))))
NO_WEIGHTS = ODD_THINGS[:-8] + ((), (1,) * 13, [1], (36,), (-1,), (1, 36), (1, None), (1, True), (1.0,), ("1",), 1, None)


def some_book(chance, most):
    length = chance.randint(2, 4)
    words = chance.sample(["".join(row) for row in product("01", repeat=length)], chance.randint(2, most))
    ends = ["".join(chance.choice("01") for _ in range(chance.randint(1, 3))) for _ in range(2)]
    return ends[0], ends[1], tuple(zip(chance.sample(SIGNS, len(words)), words))


def some_weights(chance):
    return tuple(chance.randint(0, 35) for _ in range(chance.randint(1, 4)))


def texts(book, many):
    return ["".join(row) for row in product([sign for sign, _ in book[2]], repeat=many)]


def checked(book, weights, text):
    """A text with its check sign, by hand."""
    signs = [sign for sign, _ in book[2]]
    total = 0
    for at, sign in enumerate(text):
        total += weights[at % len(weights)] * signs.index(sign)
    return text + signs[total % len(signs)]


def unlike_modules(book, weights, one, other):
    rows = [bars(book, checked(book, weights, text)) for text in (one, other)]
    return sum(sign != far for sign, far in zip(*rows))


def damage_by_hand(book, weights, many):
    rows = texts(book, many)
    return min(unlike_modules(book, weights, one, other) for one in rows for other in rows if one < other)


class Refusals(unittest.TestCase):
    def check_weights(self, call, *rest):
        for wrong in NO_WEIGHTS:
            with self.assertRaises(OutOfPlace, msg=wrong):
                call(BOOK, wrong, *rest)
        for weights in ((0,), (35,), (0, 35) * 6, (1,) * 12):
            call(BOOK, weights, *rest)

    def check_book(self, call, *rest):
        for book, part in BOOK_FAULTS[::9] + BOOK_FAULTS[-4:]:
            with self.assertRaises(BadBook) as caught:
                call(book, *rest)
            self.assertEqual(caught.exception.part, part)


class CheckSignTest(Refusals):
    def test_by_hand(self):
        for weights, text, wanted in (
            ((1,), "A", "A"), ((1,), "B", "B"), ((1,), "BC", "A"), ((1,), "BBBB", "B"), ((2,), "B", "C"), ((0,), "C", "A"),
            ((1, 0), "BC", "B"), ((0, 1), "BC", "C"), ((1, 2), "BBB", "B"), ((35,), "B", "C"), ((1, 2, 3), "CCCC", "C"), ((1, 2, 3), "CCC", "A"),
        ):
            self.assertEqual(check_sign(BOOK, weights, text), wanted, (weights, text))

    def test_beside_the_sum(self):
        chance = Random(71)
        for _ in range(200):
            book, weights = some_book(chance, 4), some_weights(chance)
            text = "".join(chance.choice(book[2])[0] for _ in range(chance.randint(1, 9)))
            self.assertEqual(text + check_sign(book, weights, text), checked(book, weights, text))

    def test_great_ones(self):
        book = ("0", "1", many_words(36, 12))
        self.assertEqual(check_sign(book, (35,), "Z" * 20000), SIGNS[35 * 35 * 20000 % 36])
        self.assertEqual(check_sign(book=book, weights=tuple(range(12)), text="1" * 12), SIGNS[66 % 36])

    def test_refusals(self):
        self.check_book(check_sign, None, None)
        self.check_weights(check_sign, "A")
        for text in ODD_THINGS + ("", "D", "A ", "a"):
            if text != "AB":
                with self.assertRaises(OutOfPlace):
                    check_sign(BOOK, (1,), text)


class DifferingTest(Refusals):
    def test_by_hand(self):
        for weights, one, other, wanted in (
            ((0,), "A", "B", 2), ((1,), "A", "B", 4), ((1,), "B", "C", 4), ((1,), "AB", "BA", 4), ((0,), "AB", "AB", 0),
            ((1,), "ABC", "CBA", 4), ((1, 2), "AB", "BA", 6), ((3,), "C", "A", 2),
        ):
            self.assertEqual(differing(BOOK, weights, one, other), wanted, (weights, one, other))
            self.assertEqual(differing(BOOK, weights, other, one), wanted)

    def test_beside_the_bars(self):
        chance = Random(72)
        for _ in range(100):
            book, weights = some_book(chance, 4), some_weights(chance)
            one, other = [chance.choice(texts(book, 3)) for _ in range(2)]
            self.assertEqual(differing(book, weights, one, other), unlike_modules(book, weights, one, other))
        self.assertEqual(differing(book=BOOK, weights=(1,), one="A", other="B"), 4)

    def test_refusals(self):
        self.check_book(differing, None, None, None)
        self.check_weights(differing, "A", "B")
        for text in ODD_THINGS + ("", "D", "a"):
            if text != "AB":
                for pair in ((text, "A"), ("A", text), (text, text)):
                    with self.assertRaises(OutOfPlace):
                        differing(BOOK, (1,), *pair)
        for one, other in (("A", "AA"), ("ABC", "AB")):
            with self.assertRaises(OutOfPlace):
                differing(BOOK, (1,), one, other)


class LeastDamageTest(Refusals):
    def test_beside_all_pairs(self):
        chance = Random(73)
        for _ in range(60):
            book, weights = some_book(chance, 4), some_weights(chance)
            ahead = None
            for many in range(1, 4):
                wanted = damage_by_hand(book, weights, many)
                self.assertEqual(least_damage(book, weights, many), wanted)
                self.assertTrue(ahead is None or wanted <= ahead)
                ahead = wanted

    def test_does_not_rise(self):
        chance = Random(74)
        for _ in range(10):
            book, weights = some_book(chance, 4), some_weights(chance)
            found = [least_damage(book, weights, many) for many in range(1, 41)]
            self.assertEqual(found, sorted(found, reverse=True))

    def test_ten_words(self):
        self.assertEqual(least_damage(TEN, (3, 1), 1), damage_by_hand(TEN, (3, 1), 1))
        self.assertEqual(least_damage(TEN, (3, 1), 2), damage_by_hand(TEN, (3, 1), 2))
        self.assertEqual(least_damage(TEN, (0,), 40), 2)
        self.assertEqual(least_damage(book=TEN, weights=(1, 3), many=40), 4)

    def test_refusals(self):
        eleven = ("0", "1", many_words(11, 4))
        for call, rest in ((least_damage, (1,)), (damage_paper, (1,)), (check_damage, (1, damage_paper(BOOK, (0,), 1)))):
            self.check_book(call, None, *[None] * len(rest))
            if call != check_damage:
                self.check_weights(call, *rest)
            for wrong in NO_WEIGHTS:
                with self.assertRaises(OutOfPlace):
                    call(BOOK, wrong, *[None] * len(rest))
            for book in (eleven, ("0", "1", many_words(36, 6))):
                with self.assertRaises(TooGreat) as caught:
                    call(book, None, *[None] * len(rest))
                self.assertEqual(caught.exception.most, 10)
            for many in ODD_THINGS + (0, -1, 41, "1"):
                with self.assertRaises(OutOfPlace):
                    call(BOOK, (1,), many, *[None] * (len(rest) - 1))


class PaperTest(unittest.TestCase):
    def test_is_taken(self):
        chance = Random(75)
        for _ in range(60):
            book, weights, many = some_book(chance, 4), some_weights(chance), chance.randint(1, 6)
            paper = damage_paper(book, weights, many)
            self.assertEqual(paper, damage_paper(book, weights, many))
            self.assertEqual(check_damage(book, weights, many, paper), least_damage(book, weights, many))
            one, other, tables = paper
            self.assertEqual((len(one), len(other), len(tables)), (many, many, many + 1))
            self.assertEqual(differing(book, weights, one, other), least_damage(book, weights, many))
            self.assertEqual({len(table) for table in tables}, {2 * len(book[2]) ** 2})

    def test_the_greatest(self):
        for weights in ((1, 3), (0,), tuple(range(24, 36))):
            for many in (1, 40):
                paper = damage_paper(TEN, weights, many)
                self.assertEqual(check_damage(book=TEN, weights=weights, many=many, paper=paper), least_damage(TEN, weights, many))

    def test_bounds_are_told_in_this_order(self):
        # With two words and the weight 1, a text of two signs: each place tells what pairs of texts there are.
        book = ("1", "1", (("A", "00"), ("B", "11")))
        _, _, tables = damage_paper(book, (1,), 2)
        for many, table in enumerate(tables):
            for one in range(2):
                for other in range(2):
                    for unlike in range(2):
                        found = [
                            2 * sum(sign != far for sign, far in zip(left, right))
                            for left in texts(book, many) for right in texts(book, many)
                            if left.count("B") % 2 == one and right.count("B") % 2 == other and (left != right) == bool(unlike)
                        ]
                        self.assertEqual(table[(one * 2 + other) * 2 + unlike], min(found, default=None))

    def check_part(self, part, paper, many=2, weights=(1, 2), book=BOOK):
        with self.assertRaises(BadPaper, msg=paper) as caught:
            check_damage(book, weights, many, paper)
        self.assertEqual(caught.exception.part, part)

    def test_the_form(self):
        paper = damage_paper(BOOK, (1, 2), 2)
        for wrong in ODD_THINGS + (list(paper), paper[:2], paper + ((),), None):
            self.check_part("form", wrong)

    def test_the_texts(self):
        paper = damage_paper(BOOK, (1, 2), 2)
        one, other, tables = paper
        self.assertEqual(check_damage(BOOK, (1, 2), 2, (other, one, tables)), least_damage(BOOK, (1, 2), 2))
        for at in (0, 1):
            for text in ODD_THINGS + ("", "A", "AAA", "AD", "aA", ["A", "A"], ("A", "A")):
                if text != "AB":
                    self.check_part("texts", put(put(paper, at, text), 2, None))
        self.check_part("texts", (one, one, tables))
        # Two texts that differ in more are no paper, whatever the tables.
        least = least_damage(BOOK, (1, 2), 2)
        pairs = [(left, right) for left in texts(BOOK, 2) for right in texts(BOOK, 2) if left != right]
        found = {True: 0, False: 0}
        for pair in pairs:
            found[differing(BOOK, (1, 2), *pair) == least] += 1
            if differing(BOOK, (1, 2), *pair) == least:
                self.assertEqual(check_damage(BOOK, (1, 2), 2, pair + (tables,)), least)
            else:
                self.check_part("tables", pair + (tables,))
        self.assertGreater(min(found.values()), 5)

    def test_the_tables(self):
        paper = one, other, tables = damage_paper(BOOK, (1, 2), 2)
        wrong = [None, (), tables[:2], tables + tables[-1:], list(tables), tables[::-1], tables[1:] + tables[:1]]
        for at, table in enumerate(tables):
            wrong += [put(tables, at, row) for row in (None, (), list(table), table[:-1], table + (None,), "0" * 18)]
            for place, bound in enumerate(table):
                wrong += [put(tables, at, put(table, place, thing)) for thing in (True, False, 1.0, "1", (), -0.5)]
                if bound is not None:
                    # A bound that is needed is not left out, and not greater.
                    wrong.append(put(tables, at, put(table, place, None)))
                    wrong.append(put(tables, at, put(table, place, bound + 1)))
        for shown in wrong:
            self.check_part("tables", (one, other, shown))
        self.assertEqual(check_damage(BOOK, (1, 2), 2, paper), least_damage(BOOK, (1, 2), 2))

    def test_lower_bounds_hold_too(self):
        weights, many = (1, 2), 3
        one, other, tables = damage_paper(BOOK, weights, many)
        least = least_damage(BOOK, weights, many)
        self.assertGreater(least, 2)
        # What is like may be bounded by less, as far as the unlike places of the last table still show it.
        looser = put(tables, 3, tuple(
            bound - 1 if at % 2 == 0 and bound is not None else bound for at, bound in enumerate(tables[3])
        ))
        self.assertEqual(check_damage(BOOK, weights, many, (one, other, looser)), least)
        lower = tuple(tuple(None if bound is None else bound - 1 for bound in table) for table in tables)
        self.check_part("tables", (one, other, lower), many, weights)

    def test_bounds_of_what_there_is_not(self):
        # A bound at a place that nothing leads to is a bound as well, and leads on.
        book, weights = ("1", "1", (("A", "00"), ("B", "11"))), (1,)
        one, other, tables = damage_paper(book, weights, 1)
        self.assertEqual(tables[0], (0,) + (None,) * 7)
        self.assertEqual(check_damage(book, weights, 1, (one, other, tables)), 4)
        for place, bound in ((6, -1), (2, 0), (7, 0)):
            self.check_part("tables", (one, other, put(tables, 0, put(tables[0], place, bound))), 1, weights, book)
        held = put(tables, 0, put(tables[0], 6, 0))
        self.assertEqual(check_damage(book, weights, 1, (one, other, held)), 4)
        more = put(tables, 1, put(tables[1], 0, -5))
        self.assertEqual(check_damage(book, weights, 1, (one, other, more)), 4)
        self.assertEqual(check_damage(book, weights, 1, (one, other, put(tables, 0, (-0,) + tables[0][1:]))), 4)


if __name__ == "__main__":
    unittest.main()
