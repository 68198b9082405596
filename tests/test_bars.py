"""need_book, bars, reading, turned, book_paper and check_book: bars, and whether they can be read from the other end."""

import unittest
from itertools import product
from random import Random

from labelhouse.bars import bars, book_paper, check_book, need_book, reading, turned
from labelhouse.errors import BadBook, BadPaper, OutOfPlace

from samples import ODD_THINGS, put

SIGNS = "0123456789ABCDEFGHIJKLMNOPQRSTUVWXYZ"
# The word of A is that of B from the other end.
BOOK = ("110", "01", (("A", "001"), ("B", "100"), ("7", "111")))
WORDS = BOOK[2]

BOOK_FAULTS = tuple((thing, "form") for thing in ODD_THINGS + (list(BOOK), BOOK[:2], BOOK + ((),))) + tuple(
    (put(BOOK, at, thing), part)
    for at, part in enumerate(("start", "stop"))
    for thing in ODD_THINGS + ("0" * 13, "012", " 01", "0\n", "O1", 1, ("0",))
    if thing not in ("1",)
) + tuple(
    (put(BOOK, 2, thing), "words")
    for thing in ODD_THINGS + (
        list(WORDS), WORDS[:1], WORDS + (None,), WORDS + (("C",),), WORDS + (("C", "010", "1"),), WORDS + (["C", "010"],),
        WORDS + (("c", "010"),), WORDS + (("", "010"),), WORDS + (("CD", "010"),), WORDS + (("-", "010"),),
        WORDS + ((3, "010"),), WORDS + ((None, "010"),), WORDS + (("A", "010"),), WORDS + (("C", "001"),),
        WORDS + (("C", "01"),), WORDS + (("C", "0100"),), WORDS + (("C", "012"),), WORDS + (("C", 10),),
        WORDS + (("C", b"010"),), WORDS + (("C", ""),), (("A", "0"), ("B", "1")),
        (("A", "0" * 13), ("B", "1" * 13)), (("A", "0 "), ("B", "1 ")),
    )
) + (
    ((None, None, None), "start"), (("0", None, None), "stop"), (("0", "", ()), "stop"), (("0", "1", ()), "words"),
)


def many_words(many, length):
    return tuple((sign, "".join(row)) for sign, row in zip(SIGNS[:many], product("01", repeat=length)))


def some_book(chance):
    length = chance.randint(2, 4)
    words = chance.sample(["".join(row) for row in product("01", repeat=length)], chance.randint(2, 4))
    start = "".join(chance.choice("01") for _ in range(chance.randint(1, 8)))
    stop = "".join(chance.choice("01") for _ in range(chance.randint(1, 8)))
    if chance.random() < 0.7:
        # Both ends begin alike, so that words can go on.
        stop = (start + stop)[:len(stop)][::-1]
    return start, stop, tuple(zip(chance.sample(SIGNS, len(words)), words))


def texts(book, many):
    return ["".join(row) for row in product([sign for sign, _ in book[2]], repeat=many)]


def rows_of(book, one, other):
    """The row of the words of one text from the other end, and that of another text."""
    words = dict(book[2])
    return book[1][::-1] + "".join(words[sign][::-1] for sign in one), book[0] + "".join(words[sign] for sign in other)


def pendings_by_hand(book, most):
    """All PENDINGS of rows of at most so many words."""
    found = set()
    for many in range(most + 1):
        for one in texts(book, many):
            for other in texts(book, many):
                left, right = rows_of(book, one, other)
                if left.startswith(right):
                    found.add((0, left[len(right):]))
                elif right.startswith(left):
                    found.add((1, right[len(left):]))
    return found


class BookTest(unittest.TestCase):
    def test_gives_it_back(self):
        for book in (
            BOOK, ("0" * 12, "1", many_words(2, 2)), ("1", "0" * 12, many_words(36, 12)), ("0", "0", many_words(4, 2)),
        ):
            self.assertIs(need_book(book), book)
        self.assertIs(need_book(thing=BOOK), BOOK)

    def test_each_wrong_part(self):
        for thing, part in BOOK_FAULTS:
            with self.assertRaises(BadBook, msg=thing) as caught:
                need_book(thing)
            self.assertEqual(caught.exception.part, part, thing)

    def test_every_call_looks_at_the_book_first(self):
        for call, rest in ((bars, (None,)), (reading, (None,)), (turned, (None,)), (book_paper, ()), (check_book, (None,))):
            for thing, part in BOOK_FAULTS[::7] + BOOK_FAULTS[-4:]:
                with self.assertRaises(BadBook) as caught:
                    call(thing, *rest)
                self.assertEqual(caught.exception.part, part)

    def test_too_many_words(self):
        words = tuple((sign, word) for (sign, word) in zip(SIGNS + "a", ["".join(row) for row in product("01", repeat=6)]))
        self.assertEqual(len(words), 37)
        with self.assertRaises(BadBook):
            need_book(("0", "0", words))


class BarsTest(unittest.TestCase):
    def test_by_hand(self):
        self.assertEqual(bars(BOOK, "A"), "11000101")
        self.assertEqual(bars(BOOK, "7BA"), "11011110000101")
        self.assertEqual(bars(book=BOOK, text="A" * 20000), "110" + "001" * 20000 + "01")

    def test_refusals(self):
        for call in (bars, turned):
            for text in ODD_THINGS + ("", "a", "C", "A C", "A\n", "AC", ("A",), ["A"]):
                if text != "AB":
                    with self.assertRaises(OutOfPlace):
                        call(BOOK, text)

    def test_reading(self):
        for many in range(1, 4):
            for text in texts(BOOK, many):
                self.assertEqual(reading(BOOK, bars(BOOK, text)), text)
        for string in (
            "", "11001", "110", "1100010", "110001010", "11000100", "01000101", "11001001", "x", "11 00101", "110A01", " 11000101",
            "11000101\n", "110" + "001" + "01" + "01", "\u00e9" * 8,
        ):
            self.assertIsNone(reading(BOOK, string), string)
        self.assertEqual(reading(book=BOOK, string="11000101"), "A")

    def test_reading_any_string(self):
        book = ("1", "01", (("X", "00"), ("Y", "01"), ("Z", "11")))
        read = {bars(book, text): text for many in range(1, 4) for text in texts(book, many)}
        for many in range(10):
            for row in product("01", repeat=many):
                self.assertEqual(reading(book, "".join(row)), read.get("".join(row)))

    def test_reading_refusals(self):
        for string in ODD_THINGS:
            if not isinstance(string, str):
                with self.assertRaises(OutOfPlace):
                    reading(BOOK, string)

    def test_turned(self):
        book = ("1", "1", WORDS)
        self.assertEqual(turned(book, "A"), "B")
        self.assertEqual(turned(book, "AB7"), "7AB")
        self.assertIsNone(turned(BOOK, "A"))
        self.assertIsNone(turned(("1", "1", WORDS[::2]), "A7"))
        self.assertEqual(turned(book=("1", "1", WORDS[::2]), text="77"), "77")

    def test_turned_with_unlike_ends(self):
        # The last modules of the one way are the first ones of the other way, not within one word.
        book = ("10", "1", (("A", "01"), ("B", "11"), ("C", "10")))
        for many in range(1, 5):
            for text in texts(book, many):
                other = bars(book, text)[::-1]
                wanted = [far for far in texts(book, many) if bars(book, far) == other]
                self.assertEqual(turned(book, text), wanted[0] if wanted else None)


class PaperTest(unittest.TestCase):
    def test_beside_all_texts(self):
        chance = Random(61)
        found = {"turns": 0, "safe": 0}
        for _ in range(400):
            book = some_book(chance)
            word, shown = paper = book_paper(book)
            found[word] += 1
            self.assertEqual(book_paper(book), paper)
            self.assertEqual(check_book(book, paper), word)
            turning = [many for many in range(1, 4) if any(turned(book, text) is not None for text in texts(book, many))]
            if word == "turns":
                self.assertIsNotNone(turned(book, shown))
                self.assertEqual(min(turning, default=len(shown)), len(shown))
                with self.assertRaises(BadPaper):
                    check_book(book, ("safe", ()) if not pendings_by_hand(book, 0) else ("safe", tuple(sorted(pendings_by_hand(book, 2)))))
            else:
                self.assertEqual(turning, [])
                self.assertTrue(pendings_by_hand(book, 2) <= set(shown))
        self.assertTrue(min(found.values()) > 60, found)

    def test_many_signs_until_bars_turn(self):
        for start, stop, words, many in (
            ("000011001", "0", ("00", "10"), 2), ("010010110110", "10010", ("01", "10", "00", "11"), 3),
            ("10", "001001101101", ("11", "01", "10", "00"), 4), ("10", "101010000001", ("11", "10", "00", "01"), 5),
        ):
            book = (start, stop, tuple(zip("ABCD", words)))
            word, shown = book_paper(book)
            self.assertEqual((word, len(shown)), ("turns", many))
            self.assertIsNotNone(turned(book, shown))
            for fewer in range(1, many):
                self.assertTrue(all(turned(book, text) is None for text in texts(book, fewer)))

    def test_great_tables_that_hold(self):
        for start, stop, words, many in (
            ("0", "101111001100", ("10", "01"), 15), ("01", "001110101010", ("01", "00", "10"), 40),
            ("0", "100110111110", ("100", "110", "101", "111"), 85), ("11100001101", "1", ("00", "01", "11"), 121),
        ):
            book = (start, stop, tuple(zip("ABCD", words)))
            word, table = book_paper(book)
            self.assertEqual((word, len(table)), ("safe", many))
            self.assertEqual(list(table), sorted(set(table)))
            self.assertTrue(pendings_by_hand(book, 4) <= set(table))
            for at in range(many):
                with self.assertRaises(BadPaper):
                    check_book(book, ("safe", table[:at] + table[at + 1:]))

    def test_a_text_of_several_signs(self):
        chance = Random(62)
        lengths = set()
        for _ in range(3000):
            book = some_book(chance)
            word, shown = book_paper(book)
            if word == "turns" and len(shown) not in lengths:
                lengths.add(len(shown))
                for many in range(1, min(len(shown), 5)):
                    self.assertTrue(all(turned(book, text) is None for text in texts(book, many)))
        self.assertTrue({1, 2, 3} <= lengths, lengths)

    def test_the_empty_table(self):
        book = ("01", "11", (("A", "00"), ("B", "01")))
        self.assertEqual(book_paper(book), ("safe", ()))
        self.assertEqual(check_book(book=book, paper=("safe", ())), "safe")

    def test_like_ends(self):
        # With nothing pending the side is 0; words that are read from the other end as no word lead nowhere.
        book = ("10", "01", (("A", "001"), ("B", "011")))
        self.assertEqual(book_paper(book), ("safe", ((0, ""),)))
        for table in ((), ((1, ""),), ((0, ""), (1, "")), ((0, ""), (0, "")), [(0, "")], ((False, ""),), ([0, ""],), ((0, "", 0),)):
            with self.assertRaises(BadPaper) as caught:
                check_book(book, ("safe", table))
            self.assertEqual(caught.exception.part, "safe")

    def test_each_thing_otherwise(self):
        book = ("1000111001", "10001", (("A", "11"), ("B", "10")))
        word, table = book_paper(book)
        self.assertEqual((word, len(table)), ("safe", 3))
        self.assertEqual(set(table), pendings_by_hand(book, 4))
        wrong = [table[:at] + table[at + 1:] for at in range(len(table))]
        wrong += [table[::-1], table + table[-1:], list(table), None, "safe", table + (None,), (None,) + table]
        wrong += [put(table, at, (1 - side, rest)) for at, (side, rest) in enumerate(table)]
        wrong += [put(table, at, (side, rest + "0")) for at, (side, rest) in enumerate(table)]
        wrong += [put(table, at, (side, rest[:-1] + "2")) for at, (side, rest) in enumerate(table)]
        wrong += [put(table, at, [side, rest]) for at, (side, rest) in enumerate(table)]
        wrong += [put(table, at, (side, list(rest))) for at, (side, rest) in enumerate(table)]
        wrong += [put(table, at, (bool(side), rest)) for at, (side, rest) in enumerate(table)]
        for shown in wrong:
            with self.assertRaises(BadPaper, msg=shown) as caught:
                check_book(book, ("safe", shown))
            self.assertEqual(caught.exception.part, "safe")
        for text in ODD_THINGS + ("", "A", "ABA", "D"):
            with self.assertRaises(BadPaper) as caught:
                check_book(book, ("turns", text))
            self.assertEqual(caught.exception.part, "turns")

    def test_texts_that_turn(self):
        book = ("1", "1", WORDS)
        self.assertEqual(book_paper(book)[0], "turns")
        for text in ("A", "B", "7", "AB7", "77A" * 9):
            self.assertEqual(check_book(book, ("turns", text)), "turns")
        for text in ("", "C", "AC", None, ("A",), b"A"):
            with self.assertRaises(BadPaper) as caught:
                check_book(book, ("turns", text))
            self.assertEqual(caught.exception.part, "turns")
        for table in ((), ((0, ""),)):
            with self.assertRaises(BadPaper) as caught:
                check_book(book, ("safe", table))
            self.assertEqual(caught.exception.part, "safe")

    def test_the_form(self):
        for paper in ODD_THINGS + (
            ("turns",), ("turns", "A", "A"), ["turns", "A"], ("turn", "A"), ("Safe", ()), ("", ()), (None, ()), (("safe",), ()),
            ("safe", (), ()), "safe",
        ):
            with self.assertRaises(BadPaper) as caught:
                check_book(("1", "1", WORDS), paper)
            self.assertEqual(caught.exception.part, "form")

    def test_great_books(self):
        chance = Random(63)
        rows = ["".join(row) for row in product("01", repeat=12)]
        for start, stop in (("1" * 12, "1"), ("1", "1" * 12), ("101010101010", "01010101"), ("0" * 12, "0" * 12), ("1", "11")):
            steps = ["1" * at + "0" * (12 - at) for at in range(13)] + ["0" * at + "1" * (12 - at) for at in range(1, 12)]
            for words in (chance.sample(rows, 36), rows[:36], steps + ["10" * 6, "01" * 6] + rows[100:110]):
                book = (start, stop, tuple(zip(SIGNS, words)))
                word, shown = book_paper(book)
                self.assertEqual(check_book(book, (word, shown)), word)
                if word == "turns":
                    self.assertIsNotNone(turned(book, shown))

    def test_great_tables(self):
        # Every rest of 11 modules is reached.
        words = ["".join(row) for row in product("01", repeat=2)]
        book = ("1", "0" * 11 + "1", tuple(zip("ABCD", words)))
        word, shown = book_paper(book)
        self.assertEqual(check_book(book, (word, shown)), word)
        if word == "turns":
            self.assertIsNotNone(turned(book, shown))
            self.assertTrue(all(turned(book, text) is None for many in range(1, len(shown)) for text in texts(book, many)))


if __name__ == "__main__":
    unittest.main()
