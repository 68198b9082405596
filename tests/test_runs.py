"""need_run, label, round_of, first_again, times, next_label and gaps: runs of labels."""

import unittest
from random import Random

from labelhouse.counters import number_of, size, text_at
from labelhouse.errors import BadRun, OutOfPlace
from labelhouse.runs import first_again, gaps, label, need_run, next_label, round_of, times

from samples import ODD_THINGS, put
from test_counters import COUNTER, COUNTER_FAULTS, GREAT, some_counter

RUN = (COUNTER, 5, -7, 30, 2)
CALLS = (
    (need_run, ()), (label, (None,)), (round_of, ()), (first_again, ()), (times, (None,)), (next_label, (None, None)), (gaps, ()),
)
NO_TEXTS = ODD_THINGS + ("ax", "ax!!", "cx!", "ax ", ("a", "x", "!"), 0)

RUN_FAULTS = tuple((thing, "form") for thing in ODD_THINGS + (list(RUN), RUN[:4], RUN + (1,))) + tuple(
    (put(RUN, 0, counter), "counter") for counter, _ in COUNTER_FAULTS
) + tuple(
    (put(RUN, at, thing), part)
    for at, part, edges in (
        (1, "begin", (-1, 12)), (2, "step", (-10 ** 18 - 1, 10 ** 18 + 1)), (3, "many", (0, -1, 10 ** 30 + 1)),
        (4, "copies", (0, -1, 1001)),
    )
    for thing in ODD_THINGS + edges + ("1",)
) + (
    ((None,) * 5, "counter"), ((COUNTER,) + (None,) * 4, "begin"), ((COUNTER, 0, None, None, None), "step"),
    ((COUNTER, 0, 0, None, None), "many"), ((COUNTER, 0, 0, 1, None), "copies"), ((COUNTER, 12, 0, 0, 0), "begin"),
)


def some_run(chance, counter=None):
    """A RUN with few labels: steps of both signs, 0, multiples of SIZE, and beyond it; below and beyond its round."""
    if counter is None:
        counter = some_counter(chance)
    around = size(counter)
    step = chance.choice((
        chance.randint(-6, 6), chance.randint(-3 * around, 3 * around), 0, around * chance.randint(-2, 2), around + 1, -around - 1,
        around // 2,
    ))
    return counter, chance.randrange(around), step, chance.randint(1, 2 * around + 2), chance.choice((1, 1, 2, 3))


def great_run(chance):
    many = chance.choice((10 ** 30, chance.randint(1, 10 ** 30), chance.randint(1, 10 ** 9), chance.randint(1, 10 ** 18)))
    step = chance.choice((10 ** 18, -10 ** 18, chance.randint(-10 ** 18, 10 ** 18), 36 ** 6, -36 ** 11, 2 ** 20 * 3 ** 9, 1, -1))
    return GREAT, chance.randrange(36 ** 12), step, many, chance.choice((1, 7, 1000))


def serials_by_hand(run):
    """The TEXT of each SERIAL."""
    counter, begin, step, many, _ = run
    return [text_at(counter, (begin + number * step) % size(counter)) for number in range(many)]


def labels_by_hand(run):
    return [text for text in serials_by_hand(run) for _ in range(run[4])]


def gaps_by_hand(run):
    numbers = sorted({number_of(run[0], text) for text in serials_by_hand(run)})
    found = {}
    for one, other in zip(numbers, numbers[1:] + [numbers[0] + size(run[0])]):
        found[other - one] = found.get(other - one, 0) + 1
    return tuple(sorted(found.items()))


class RunTest(unittest.TestCase):
    def test_gives_it_back(self):
        for run in (
            RUN, (COUNTER, 0, 0, 1, 1), (COUNTER, 11, 10 ** 18, 10 ** 30, 1000), (GREAT, 36 ** 12 - 1, -10 ** 18, 1, 1),
        ):
            self.assertIs(need_run(run), run)
        self.assertIs(need_run(thing=RUN), RUN)

    def test_each_wrong_part(self):
        for call, rest in CALLS:
            for thing, part in RUN_FAULTS:
                with self.assertRaises(BadRun, msg=thing) as caught:
                    call(thing, *rest)
                self.assertEqual(caught.exception.part, part, thing)


class SmallRunsTest(unittest.TestCase):
    def test_labels(self):
        chance = Random(91)
        for _ in range(150):
            run = some_run(chance)
            labels = labels_by_hand(run)
            self.assertEqual([label(run, number) for number in range(len(labels))], labels)
            for number in ODD_THINGS + (-1, len(labels), 10 ** 40):
                with self.assertRaises(OutOfPlace):
                    label(run, number)

    def test_rounds(self):
        chance = Random(92)
        found = {}
        for _ in range(300):
            run = some_run(chance)
            serials = serials_by_hand(put(run, 3, 2 * size(run[0]) + 2))
            around = serials.index(serials[0], 1)
            self.assertEqual(round_of(run), around)
            for one in range(0, len(serials), 3):
                for other in range(0, len(serials), 2):
                    self.assertEqual(serials[one] == serials[other], (one - other) % around == 0)
            serials = serials[:run[3]]
            again = [number for number, text in enumerate(serials) if text in serials[:number]]
            self.assertEqual(first_again(run), again[0] if again else None)
            found[first_again(run) is None, around == 1] = True
        self.assertEqual(len(found), 4)

    def test_times_and_next_label(self):
        chance = Random(93)
        for _ in range(80):
            run = some_run(chance)
            labels = labels_by_hand(run)
            for number in range(size(run[0])):
                text = text_at(run[0], number)
                self.assertEqual(times(run, text), labels.count(text))
                following = None
                for at in range(len(labels) + 3, -1, -1):
                    if at < len(labels) and labels[at] == text:
                        following = at
                    self.assertEqual(next_label(run, text, at), following)
                self.assertIsNone(next_label(run, text, len(labels) + 10 ** 50))

    def test_gaps(self):
        chance = Random(94)
        found = {}
        for _ in range(800):
            run = some_run(chance)
            told = gaps(run)
            self.assertEqual(told, gaps_by_hand(run), run)
            found[len(told)] = True
        self.assertEqual(sorted(found), [1, 2, 3])

    def test_gaps_of_every_step(self):
        counter = ("abcdef", "abcde")
        for step in range(-3, 34):
            for many in range(1, 33):
                run = (counter, 4, step, many, 1)
                self.assertEqual(gaps(run), gaps_by_hand(run), run)

    def test_one_text_alone(self):
        for run in ((COUNTER, 5, 0, 9, 1), (COUNTER, 5, 24, 9, 1), (COUNTER, 5, -12, 1, 1), (COUNTER, 5, 1, 1, 4)):
            self.assertEqual(gaps(run), ((12, 1),))
        self.assertEqual(gaps((COUNTER, 5, 6, 2, 1)), ((6, 2),))
        self.assertEqual(gaps((COUNTER, 5, 1, 12, 1)), ((1, 12),))
        self.assertEqual(gaps((COUNTER, 5, 1, 2, 1)), ((1, 1), (11, 1)))
        self.assertEqual(gaps((COUNTER, 0, 5, 3, 1)), ((2, 1), (5, 2)))
        self.assertEqual(gaps((COUNTER, 0, 5, 4, 1)), ((2, 2), (3, 1), (5, 1)))

    def test_by_hand(self):
        run = (("01", "abc"), 4, -2, 5, 2)
        self.assertEqual([label(run, number) for number in range(10)], ["1b", "1b", "0c", "0c", "0a", "0a", "1b", "1b", "0c", "0c"])
        self.assertEqual((round_of(run), first_again(run)), (3, 3))
        self.assertEqual((times(run, "1b"), times(run, "0a"), times(run, "0b")), (4, 2, 0))
        self.assertEqual([next_label(run, "1b", number) for number in range(9)], [0, 1, 6, 6, 6, 6, 6, 7, None])
        self.assertEqual((label(run=run, number=9), round_of(run=run), first_again(run=run)), ("0c", 3, 3))
        self.assertEqual((times(run=run, text="0a"), next_label(run=run, text="0a", number=0), gaps(run=run)), (2, 4, ((2, 3),)))

    def test_refusals(self):
        for text in NO_TEXTS:
            with self.assertRaises(OutOfPlace, msg=text):
                times(RUN, text)
            with self.assertRaises(OutOfPlace, msg=text):
                next_label(RUN, text, 0)
        for number in ODD_THINGS[:-2] + (-10 ** 900, -1, "1"):
            with self.assertRaises(OutOfPlace, msg=number):
                next_label(RUN, "ax!", number)


class GreatRunsTest(unittest.TestCase):
    def test_go_with_one_another(self):
        chance = Random(95)
        for _ in range(300):
            run = counter, begin, step, many, copies = great_run(chance)
            around = round_of(run)
            self.assertEqual(around * step % size(counter), 0)
            self.assertEqual(first_again(run), around if many > around else None)
            number = chance.randrange(many * copies)
            text = label(run, number)
            self.assertEqual(number_of(counter, text), (begin + number // copies * step) % size(counter))
            self.assertEqual(next_label(run, text, number), number)
            serials = (many - 1 - number // copies % around) // around + 1
            self.assertEqual(times(run, text), serials * copies)
            following = next_label(run, text, (number // copies + 1) * copies)
            wanted = (number // copies + around) * copies
            self.assertEqual(following, wanted if wanted < many * copies else None)
            self.assertEqual(next_label(run, text, 0), number // copies % around * copies)

    def test_texts_that_are_not_shown(self):
        run = (GREAT, 5, 36 ** 6, 10 ** 30, 1)
        self.assertEqual(times(run, text_at(GREAT, 6)), 0)
        self.assertIsNone(next_label(run, text_at(GREAT, 6), 0))
        self.assertEqual(next_label(run, text_at(GREAT, 5 + 36 ** 6 * 99), 10), 99)
        self.assertIsNone(next_label(put(run, 3, 99), text_at(GREAT, 5 + 36 ** 6 * 99), 10))

    def test_gaps(self):
        chance = Random(96)
        for _ in range(300):
            run = great_run(chance)
            told = gaps(run)
            shown = min(run[3], round_of(run))
            self.assertTrue(1 <= len(told) <= 3)
            self.assertEqual(sum(many for _, many in told), shown)
            self.assertEqual(sum(gap * many for gap, many in told), 36 ** 12)
            self.assertEqual([gap for gap, _ in told], sorted({gap for gap, _ in told}))
            self.assertTrue(all(gap > 0 and many > 0 for gap, many in told))
            if len(told) == 3:
                self.assertEqual(told[2][0], told[0][0] + told[1][0])
            for gap, _ in told:
                self.assertEqual(gap % (36 ** 12 // round_of(run)), 0)

    def test_gaps_when_all_is_shown(self):
        self.assertEqual(gaps((GREAT, 7, 5, 10 ** 30, 1)), ((1, 36 ** 12),))
        self.assertEqual(gaps((GREAT, 7, 36 ** 6, 10 ** 30, 1)), ((36 ** 6, 36 ** 6),))
        self.assertEqual(gaps((GREAT, 7, 10, 36 ** 12 // 2, 1)), ((2, 36 ** 12 // 2),))
        self.assertEqual(gaps((GREAT, 7, 1, 10 ** 9, 1)), ((1, 10 ** 9 - 1), (36 ** 12 - 10 ** 9 + 1, 1)))
        self.assertEqual(gaps((GREAT, 7, -1, 10 ** 9, 1)), ((1, 10 ** 9 - 1), (36 ** 12 - 10 ** 9 + 1, 1)))


if __name__ == "__main__":
    unittest.main()
