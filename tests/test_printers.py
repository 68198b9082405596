"""Printer and under: a printer that prints texts one by one."""

import unittest
from random import Random

from labelhouse.counters import number_of, size, text_at
from labelhouse.errors import BadCounter, Empty, Nothing, OutOfPlace
from labelhouse.printers import Printer, under
from labelhouse.runs import label, times

from samples import ODD_THINGS, put
from test_counters import COUNTER, COUNTER_FAULTS, GREAT, some_counter

NO_MANY = ODD_THINGS + (0, -1, 10 ** 30 + 1, "1")
NO_ROLLS = tuple(thing for thing in ODD_THINGS if thing is not None) + (-1, 10 ** 30 + 1, "1")


class Record:
    """The same as a Printer by a list of labels, of each its TEXT and whether it is lost."""

    def __init__(self, counter, begin, step, roll=None):
        self.begun = (counter, begin, step, roll)
        self.labels = []
        self.left = roll
        self.ahead = []

    def note(self):
        self.ahead.append(([list(one) for one in self.labels], self.left))

    def call(self, many):
        if self.left is not None and self.left < many:
            return ("empty", self.left)
        self.note()
        counter, begin, step, _ = self.begun
        first = len(self.labels)
        for number in range(first, first + many):
            self.labels.append([text_at(counter, (begin + number * step) % size(counter)), False])
        if self.left is not None:
            self.left -= many
        return self.labels[first][0], self.labels[-1][0]

    def jam(self, many):
        self.note()
        for one in self.labels[-many:]:
            one[1] = True

    def lost(self):
        found = []
        for number, (_, gone) in enumerate(self.labels):
            if gone and found and found[-1][1] == number:
                found[-1] = (found[-1][0], number + 1)
            elif gone:
                found.append((number, number + 1))
        return tuple(found)

    def again(self):
        if not self.lost():
            return "nothing"
        found = tuple((self.labels[first][0], self.labels[behind - 1][0]) for first, behind in self.lost())
        self.note()
        for one in self.labels:
            one[1] = False
        return found

    def roll(self, many):
        self.note()
        self.left = many

    def back(self, many):
        if many > len(self.ahead):
            return "nothing"
        labels, self.left = self.ahead[-many]
        self.labels = [list(one) for one in labels]
        del self.ahead[-many:]
        return None


def some_printers(chance):
    """A Printer and a Record of the same kind."""
    counter = some_counter(chance, 2, 3)
    begin, step = chance.randrange(size(counter)), chance.randint(-5, 5)
    roll = chance.choice((None, None, 0, chance.randint(1, 12)))
    if roll is None and chance.random() < 0.5:
        return Printer(counter, begin, step), Record(counter, begin, step)
    return Printer(counter, begin, step, roll=roll), Record(counter, begin, step, roll)


def answer_of(call, *rest, **named):
    try:
        return call(*rest, **named)
    except Empty as error:
        return ("empty", error.rest)
    except Nothing:
        return "nothing"


def some_deed(chance, printer, record, found):
    """Do the same by both, and give both answers."""
    word = chance.choice(("call", "call", "call", "jam", "jam", "again", "roll", "back"))
    found[word] = found.get(word, 0) + 1
    if word == "call":
        many = chance.randint(1, 5)
        return answer_of(printer, many), record.call(many)
    if word == "jam":
        if not record.labels:
            return None, None
        many = chance.randint(1, min(len(record.labels), chance.choice((2, 9))))
        return printer.jam(many), record.jam(many)
    if word == "again":
        return answer_of(printer.again), record.again()
    if word == "roll":
        many = chance.choice((None, 0, chance.randint(1, 9)))
        return printer.roll(many), record.roll(many)
    many = chance.choice((1, 1, 1, 2, 3))
    if many == 1 and chance.random() < 0.5:
        return answer_of(printer.back), record.back(1)
    return answer_of(printer.back, many=many), record.back(many)


def stands(printer):
    """All that a Printer tells."""
    return (
        printer.counter, printer.begin, printer.step, printer.printed, printer.left, printer.lost, printer.next_text,
        len(printer),
    )


class BesideRecordTest(unittest.TestCase):
    def check_alike(self, printer, record):
        counter, begin, step, _ = record.begun
        number = (begin + len(record.labels) * step) % size(counter)
        self.assertEqual(stands(printer), (
            counter, begin, step, len(record.labels), record.left, record.lost(), text_at(counter, number), len(record.ahead),
        ))
        whole = {text for text, gone in record.labels if not gone}
        for at in range(size(counter)):
            self.assertIs(text_at(counter, at) in printer, text_at(counter, at) in whole)

    def test_all_deeds(self):
        chance = Random(251)
        found = {}
        answers = {}
        for _ in range(250):
            printer, record = some_printers(chance)
            for _ in range(chance.randint(1, 30)):
                answer, wanted = some_deed(chance, printer, record, found)
                self.assertEqual(answer, wanted)
                answers[wanted if wanted == "nothing" or wanted is None else wanted[0] == "empty"] = True
                self.check_alike(printer, record)
        self.assertEqual((len(found), len(answers)), (5, 4))

    def test_trials_and_copies(self):
        chance = Random(252)
        for number in range(200):
            printer, record = some_printers(chance)
            for _ in range(chance.randint(0, 12)):
                some_deed(chance, printer, record, {})
            before, twin = stands(printer), printer.copy()
            trial = printer.trial()
            with trial as held:
                self.assertIs(held, printer)
                inner = printer.copy()
                far = Record(*record.begun)
                far.labels, far.left = [list(one) for one in record.labels], record.left
                far.ahead = list(record.ahead)
                for _ in range(chance.randint(0, 12)):
                    answer, wanted = some_deed(chance, printer, far, {})
                    self.assertEqual(answer, wanted)
                self.check_alike(printer, far)
                if number % 3 == 0:
                    with printer.trial():
                        printer(1) if printer.left != 0 else printer.roll(5)
                        printer.back(many=len(printer))
                    self.check_alike(printer, far)
            self.assertEqual(stands(printer), before)
            self.check_alike(printer, record)
            self.assertTrue(printer == twin and twin == inner)
            # What follows is as if there had been no trial, and the copy goes on by itself.
            for _ in range(8):
                answer, wanted = some_deed(chance, printer, record, {})
                self.assertEqual(answer, wanted)
            self.check_alike(printer, record)
            self.assertEqual(stands(twin), before)
            printer.back(many=len(printer)) if len(printer) else None
            self.assertEqual(stands(twin), before)

    def test_beside_a_run(self):
        chance = Random(253)
        for _ in range(60):
            counter = some_counter(chance)
            run = (counter, chance.randrange(size(counter)), chance.randint(-30, 30), chance.randint(1, 30), 1)
            printer = Printer(*run[:3])
            for number in range(run[3]):
                self.assertEqual(printer.next_text, label(run, number))
                self.assertEqual(printer(1), (label(run, number), label(run, number)))
            for number in range(size(counter)):
                text = text_at(counter, number)
                self.assertIs(text in printer, times(run, text) > 0)
            printer = Printer(*run[:3])
            self.assertEqual(printer(run[3]), (label(run, 0), label(run, run[3] - 1)))


class NamedTest(unittest.TestCase):
    def test_a_day(self):
        printer = Printer(("ab", "0123456789"), 5, 7, roll=100)
        self.assertEqual(printer(3), ("a5", "b9"))
        self.assertEqual((printer.printed, printer.left, printer.next_text, printer.lost), (3, 97, "a6", ()))
        printer.jam(1)
        self.assertEqual(printer.lost, ((2, 3),))
        self.assertTrue("a5" in printer and "b9" not in printer and "a6" not in printer and 5 not in printer)
        self.assertEqual(printer(4), ("a6", "a7"))
        printer.jam(2)
        self.assertEqual(printer.lost, ((2, 3), (5, 7)))
        self.assertEqual(printer.again(), (("b9", "b9"), ("a0", "a7")))
        self.assertEqual((printer.lost, printer.printed, printer.left, len(printer)), ((), 7, 93, 5))
        self.assertTrue("b9" in printer)
        printer.back()
        self.assertEqual((printer.lost, len(printer)), (((2, 3), (5, 7)), 4))
        printer.jam(5)
        self.assertEqual(printer.lost, ((2, 7),))
        printer.back(many=2)
        self.assertEqual((printer.lost, printer.printed), (((2, 3),), 7))

    def test_side_by_side(self):
        printer = Printer(COUNTER, 0, 1)
        printer(3)
        printer.jam(1)
        printer(2)
        printer.jam(2)
        self.assertEqual(printer.lost, ((2, 5),))
        printer.jam(1)
        self.assertEqual(printer.lost, ((2, 5),))
        printer.back(many=2)
        self.assertEqual(printer.lost, ((2, 3),))
        printer.jam(5)
        self.assertEqual((printer.lost, printer.again()), (((0, 5),), ((text_at(COUNTER, 0), text_at(COUNTER, 4)),)))

    def test_by_name(self):
        printer = Printer(counter=COUNTER, begin=0, step=1, roll=9)
        self.assertEqual(printer(many=2), (text_at(COUNTER, 0), text_at(COUNTER, 1)))
        printer.jam(many=1)
        printer.roll(many=4)
        self.assertEqual((printer.left, len(printer)), (4, 3))
        printer.back(many=1)
        self.assertEqual(printer.left, 7)
        self.assertEqual(under(printer=printer, deed=len), 2)
        with self.assertRaises(TypeError):
            Printer(COUNTER, 0, 1, 9)
        with self.assertRaises(TypeError):
            printer.back(1)

    def test_no_call_returns_more(self):
        printer = Printer(COUNTER, 0, 1)
        printer(2)
        self.assertEqual((printer.jam(1), printer.roll(3), printer.back()), (None, None, None))


class RollsTest(unittest.TestCase):
    def check_empty(self, printer, many, rest):
        before = stands(printer)
        with self.assertRaises(Empty) as caught:
            printer(many)
        self.assertEqual(caught.exception.rest, rest)
        self.assertEqual(stands(printer), before)

    def test_rolls_that_end(self):
        printer = Printer(COUNTER, 0, 1, roll=5)
        self.check_empty(printer, 6, 5)
        printer(3)
        self.check_empty(printer, 3, 2)
        self.check_empty(printer, 10 ** 30, 2)
        self.assertEqual(printer(2), (text_at(COUNTER, 3), text_at(COUNTER, 4)))
        self.check_empty(printer, 1, 0)
        printer.roll(0)
        self.check_empty(printer, 1, 0)
        printer.roll(1)
        self.assertEqual(printer(1), (text_at(COUNTER, 5),) * 2)
        printer.roll(None)
        self.assertEqual(printer(10 ** 30)[0], text_at(COUNTER, 6))
        self.assertEqual((printer.printed, printer.left, len(printer)), (10 ** 30 + 6, None, 7))
        self.check_empty(Printer(COUNTER, 0, 1, roll=0), 1, 0)
        self.check_empty(Printer(COUNTER, 0, 1, roll=10 ** 30 - 1), 10 ** 30, 10 ** 30 - 1)

    def test_great(self):
        chance = Random(254)
        for step in (10 ** 18, -10 ** 18, 1, 36 ** 6, -7):
            begin = chance.randrange(36 ** 12)
            run = (GREAT, begin, step, 10 ** 30, 1)
            printer = Printer(GREAT, begin, step, roll=10 ** 30)
            self.assertEqual(printer(10 ** 30), (label(run, 0), label(run, 10 ** 30 - 1)))
            self.assertEqual((printer.left, printer.printed), (0, 10 ** 30))
            for number in (0, 1, 10 ** 29, 10 ** 30 - 1):
                self.assertTrue(label(run, number) in printer)
            printer.jam(10 ** 30 - 5)
            self.assertEqual(printer.lost, ((5, 10 ** 30),))
            for number in range(5):
                self.assertTrue(label(run, number) in printer)
            # What is lost is shown by a label that is not lost, too, if it comes again soon enough.
            for number in (5, 10 ** 20, 10 ** 30 - 1):
                text = label(run, number)
                again = times(put(run, 3, 5), text) > 0
                self.assertIs(text in printer, again)
            self.assertEqual(printer.again(), ((label(run, 5), label(run, 10 ** 30 - 1)),))
            self.assertTrue(label(run, 10 ** 20) in printer)

    def test_many_deeds(self):
        printer = Printer(GREAT, 0, 1)
        for _ in range(4000):
            printer(3)
            printer.jam(1)
        self.assertEqual((len(printer), len(printer.lost), printer.lost[-1]), (8000, 4000, (11999, 12000)))
        with printer.trial():
            printer.jam(6000)
            self.assertEqual(len(printer.lost), 2000)
            self.assertEqual(len(printer.again()), 2000)
            printer.back(many=6000)
            self.assertEqual(len(printer.lost), 1001)
        self.assertEqual((len(printer), len(printer.lost)), (8000, 4000))
        printer.back(many=8000)
        self.assertEqual((len(printer), printer.lost, printer.printed), (0, (), 0))


class ContainsTest(unittest.TestCase):
    def test_any_value(self):
        printer = Printer(COUNTER, 0, 1)
        printer(12)
        for thing in ODD_THINGS + ("ax", "ax!!", "cx!", ("a", "x", "!"), 0):
            self.assertFalse(thing in printer)
        self.assertTrue("ax!" in printer)

    def test_another_label_with_it(self):
        printer = Printer(("ab",), 0, 1)
        printer(3)
        printer.jam(1)
        self.assertTrue("a" in printer)
        printer.jam(2)
        self.assertFalse("b" in printer)
        printer.jam(3)
        self.assertFalse("a" in printer)
        # A text that is never shown.
        self.assertFalse("b" in Printer(("ab",), 0, 2))
        printer = Printer(("ab",), 0, 2)
        printer(10 ** 30)
        self.assertTrue("a" in printer and "b" not in printer)


class EqualTest(unittest.TestCase):
    def test_began_alike(self):
        first = (COUNTER, 0, 1)
        self.assertTrue(Printer(*first) == Printer(*first))
        self.assertFalse(Printer(*first) != Printer(*first))
        self.assertTrue(Printer(*first, roll=5) == Printer(*first, roll=5))
        for other in (
            Printer(("ab",), 0, 1), Printer(COUNTER, 1, 1), Printer(COUNTER, 0, 2), Printer(*first, roll=0), Printer(*first, roll=5),
            # It shows the same texts, but did not begin alike.
            Printer(COUNTER, 0, 1 + size(COUNTER)),
        ):
            self.assertFalse(Printer(*first) == other)
            self.assertTrue(Printer(*first) != other)
        for thing in ODD_THINGS + (COUNTER, first):
            self.assertFalse(Printer(*first) == thing)

    def test_the_same_deeds(self):
        deeds = (
            lambda printer: printer(2), lambda printer: printer(1), lambda printer: printer.roll(8), lambda printer: printer.roll(9),
            lambda printer: printer.jam(1), lambda printer: printer.jam(2), lambda printer: printer.again(),
        )
        rows = [(0, 4) + row for one in range(7) for other in range(7) for row in ((), (one,), (one, 6), (one, 4, other))]
        rows = sorted({row for row in rows if row != (0, 4, 6, 6)})
        printers = []
        for row in rows:
            printer = Printer(COUNTER, 0, 1, roll=9)
            for at in row:
                deeds[at](printer)
            printers.append(printer)
        for one, printer in zip(rows, printers):
            for other, far in zip(rows, printers):
                self.assertIs(printer == far, one == other, (one, other))

    def test_what_was_taken_back(self):
        one, other = Printer(COUNTER, 0, 1, roll=9), Printer(COUNTER, 0, 1, roll=9)
        one(3)
        self.assertFalse(one == other)
        one.jam(2)
        one.back(many=2)
        self.assertTrue(one == other)
        # As much is printed, by other calls.
        one(2)
        other(1)
        other(1)
        self.assertFalse(one == other)

    def test_refused_deeds_are_none(self):
        one, other = Printer(COUNTER, 0, 1, roll=9), Printer(COUNTER, 0, 1, roll=9)
        for call in (lambda: one(10), lambda: one(0), lambda: one.jam(1), one.again, lambda: one.roll(-1), one.back):
            with self.assertRaises((Empty, Nothing, OutOfPlace)):
                call()
        self.assertTrue(one == other)
        self.assertEqual(len(one), 0)


class TrialTest(unittest.TestCase):
    def test_errors_in_it(self):
        printer = Printer(COUNTER, 0, 1, roll=9)
        printer(4)
        printer.jam(1)
        before, twin = stands(printer), printer.copy()
        for error in (KeyError("x"), OutOfPlace("x"), KeyboardInterrupt()):
            with self.assertRaises(type(error)) as caught:
                with printer.trial() as held:
                    held(2)
                    held.again()
                    held.back(many=3)
                    raise error
            self.assertIs(caught.exception, error)
            self.assertEqual(stands(printer), before)
        with self.assertRaises(Empty):
            with printer.trial():
                printer.roll(3)
                printer(4)
        self.assertEqual(stands(printer), before)
        self.assertTrue(printer == twin)

    def test_when_the_block_begins(self):
        printer = Printer(COUNTER, 0, 1)
        trial = printer.trial()
        printer(2)
        with trial:
            printer(3)
            self.assertEqual(printer.printed, 5)
        self.assertEqual((printer.printed, len(printer)), (2, 1))

    def test_left_early(self):
        printer = Printer(COUNTER, 0, 1)
        for _ in range(3):
            with printer.trial() as held:
                held(2)
                break
        self.assertEqual(len(printer), 0)

    def test_under(self):
        printer = Printer(COUNTER, 0, 1, roll=9)
        printer(2)
        before = stands(printer)
        self.assertEqual(under(printer, lambda held: (held(3), held.jam(5), held.again(), len(held))), (
            (text_at(COUNTER, 2), text_at(COUNTER, 4)), None, (("ax!", text_at(COUNTER, 4)),), 4,
        ))
        self.assertEqual(stands(printer), before)
        self.assertIs(under(printer, lambda held: held), printer)
        self.assertEqual(under(printer, lambda held: under(held, lambda inner: inner(3)) == held(3)), True)
        with self.assertRaises(Empty) as caught:
            under(printer, lambda held: (held(3), held(5)))
        self.assertEqual(caught.exception.rest, 4)
        self.assertEqual(stands(printer), before)
        kept = under(printer, lambda held: (held(3), held.copy())[1])
        self.assertEqual((kept.printed, printer.printed), (5, 2))
        for thing in ODD_THINGS:
            with self.assertRaises(OutOfPlace):
                under(thing, len)


class RefusalsTest(unittest.TestCase):
    def test_begun(self):
        for counter, number in COUNTER_FAULTS:
            with self.assertRaises(BadCounter) as caught:
                Printer(counter, None, None, roll=-1)
            self.assertEqual(caught.exception.number, number)
        for begin in ODD_THINGS + (-1, 12, "0"):
            with self.assertRaises(OutOfPlace):
                Printer(COUNTER, begin, 1)
        for step in ODD_THINGS + (10 ** 18 + 1, -10 ** 18 - 1, "1"):
            with self.assertRaises(OutOfPlace):
                Printer(COUNTER, 0, step)
        for roll in NO_ROLLS:
            with self.assertRaises(OutOfPlace):
                Printer(COUNTER, 0, 1, roll=roll)
        printer = Printer(COUNTER, 11, -10 ** 18, roll=10 ** 30)
        self.assertEqual((printer.begin, printer.step, printer.left), (11, -10 ** 18, 10 ** 30))
        self.assertIs(printer.counter, COUNTER)

    def test_deeds(self):
        printer = Printer(COUNTER, 0, 1)
        for many in ODD_THINGS + (1, 0, -1):
            with self.assertRaises(OutOfPlace):
                printer.jam(many)
        printer(7)
        before = stands(printer)
        for many in NO_MANY:
            with self.assertRaises(OutOfPlace):
                printer(many)
        for many in ODD_THINGS + (8, 0, -1, "1"):
            with self.assertRaises(OutOfPlace):
                printer.jam(many)
        for many in NO_ROLLS:
            with self.assertRaises(OutOfPlace):
                printer.roll(many)
        for many in ODD_THINGS[:-2] + (0, -1, "1", -10 ** 900):
            with self.assertRaises(OutOfPlace):
                printer.back(many=many)
        for many in (2, 10 ** 900):
            with self.assertRaises(Nothing):
                printer.back(many=many)
        with self.assertRaises(Nothing):
            printer.again()
        self.assertEqual(stands(printer), before)
        printer.jam(7)
        self.assertEqual(printer.lost, ((0, 7),))

    def test_wrong_number_ahead_of_an_empty_roll(self):
        printer = Printer(COUNTER, 0, 1, roll=0)
        for many in NO_MANY:
            with self.assertRaises(OutOfPlace):
                printer(many)

    def test_properties_are_not_told(self):
        printer = Printer(COUNTER, 0, 1)
        for name in ("counter", "begin", "step", "printed", "left", "lost", "next_text"):
            with self.assertRaises(AttributeError):
                setattr(printer, name, None)
        self.assertEqual(number_of(COUNTER, printer.next_text), 0)


if __name__ == "__main__":
    unittest.main()
