"""need_question, ladder, answer, is_ladder, many_hits, shared and many_shared."""

import unittest
from random import Random

from labelhouse.counters import size, text_at
from labelhouse.errors import BadRun, OutOfPlace
from labelhouse.ladders import answer, is_ladder, ladder, many_hits, many_shared, need_question, shared
from labelhouse.runs import label, next_label, times

from samples import ODD_THINGS, put
from test_counters import COUNTER, GREAT, some_counter
from test_runs import RUN, RUN_FAULTS, great_run, serials_by_hand, some_run

QUESTION = (7, 19, 3, 4)
NO_QUESTIONS = ODD_THINGS + (
    list(QUESTION), QUESTION[:3], QUESTION + (1,), (-1, 19, 3, 4), (19, 19, 3, 4), (7, 7, 3, 4), (7, 19, -1, 4), (7, 19, 5, 4),
    (7, 19, 3, 19), (0, 0, 0, 0), (0, 1, 0, 1), (0, -5, 0, 0), (1, 2, 1, 0),
) + tuple(put(QUESTION, at, thing) for at in range(4) for thing in ODD_THINGS[:-2] + ("7",)) + (
    put(QUESTION, 0, 10 ** 900), put(QUESTION, 1, -10 ** 900), put(QUESTION, 2, 10 ** 900), put(QUESTION, 3, 10 ** 900),
)


def all_questions(most):
    return [
        (step, modulus, low, high)
        for modulus in range(1, most + 1) for step in range(modulus) for low in range(modulus) for high in range(low, modulus)
    ]


def answer_by_trying(question):
    step, modulus, low, high = question
    return next((number for number in range(modulus) if low <= step * number % modulus <= high), None)


def is_plain(question):
    step, _, low, high = question
    return low == 0 or step == 0 or any(low <= step * number <= high for number in range(high // step + 1))


def behind(question):
    step, modulus, low, high = question
    return (modulus % step, step, -high % step, -low % step)


def some_question(chance, most):
    modulus = chance.randint(1, most)
    step = chance.choice((chance.randrange(modulus), modulus // chance.randint(1, 9) % modulus))
    low = chance.randrange(modulus)
    high = min(modulus - 1, low + chance.choice((0, 1, chance.randint(0, modulus), modulus // 10 ** 6)))
    return (step, modulus, low, high)


class QuestionTest(unittest.TestCase):
    def test_gives_it_back(self):
        for question in (QUESTION, (0, 1, 0, 0), (0, 10 ** 999, 0, 10 ** 999 - 1), (18, 19, 18, 18)):
            self.assertIs(need_question(question), question)
        self.assertIs(need_question(thing=QUESTION), QUESTION)

    def test_what_is_none(self):
        for call in (need_question, ladder, answer):
            for thing in NO_QUESTIONS:
                with self.assertRaises(OutOfPlace, msg=thing):
                    call(thing)


class AnswerTest(unittest.TestCase):
    def test_beside_trying(self):
        for question in all_questions(13):
            self.assertEqual(answer(question), answer_by_trying(question), question)
        chance = Random(101)
        for _ in range(300):
            question = some_question(chance, 3000)
            self.assertEqual(answer(question), answer_by_trying(question), question)

    def test_by_hand(self):
        for question, wanted in (
            ((0, 1, 0, 0), 0), ((5, 9, 0, 0), 0), ((0, 9, 1, 8), None), ((3, 9, 1, 2), None), ((3, 9, 5, 6), 2), ((4, 9, 4, 4), 1),
            ((7, 19, 3, 4), 6), ((2, 4, 1, 1), None), ((1, 10 ** 40, 10 ** 40 - 1, 10 ** 40 - 1), 10 ** 40 - 1),
        ):
            self.assertEqual(answer(question), wanted, question)
        self.assertEqual(answer(thing=QUESTION), 6)

    def test_great_ones(self):
        chance = Random(102)
        for most in (10 ** 40, 10 ** 80, 10 ** 998):
            for _ in range(40):
                step, modulus, low, high = question = some_question(chance, most)
                found = answer(question)
                if found is not None:
                    self.assertTrue(low <= step * found % modulus <= high)
                    # From a later one on the bounds can be met again, from none that is ahead.
                    self.assertEqual(answer((step, modulus, low, step * found % modulus)), found)
                self.assertLessEqual(len(ladder(question)), 5 * len(str(modulus)) + 1)

    def test_great_ones_with_one_rest(self):
        modulus = 10 ** 39 + 3
        for number in (0, 1, 2, 10 ** 20 + 7, modulus - 1):
            rest = 123456789 * number % modulus
            self.assertEqual(answer((123456789, modulus, rest, rest)), number)
        self.assertIsNone(answer((6 * 10 ** 30, 9 * 10 ** 30, 1, 3 * 10 ** 30 - 1)))
        self.assertEqual(answer((6 * 10 ** 30, 9 * 10 ** 30, 1, 3 * 10 ** 30)), 2)

    def test_many_rungs(self):
        one, other = 1, 1
        while other < 10 ** 990:
            one, other = other, one + other
        question = (one, other, other - 1, other - 1)
        found = answer(question)
        self.assertEqual(one * found % other, other - 1)
        self.assertGreater(len(ladder(question)), 2000)
        self.assertTrue(is_ladder(ladder(question)))


class LadderTest(unittest.TestCase):
    def test_beside_the_rule(self):
        for question in all_questions(12):
            rungs = ladder(question)
            self.assertEqual(rungs[0], question)
            for at, rung in enumerate(rungs):
                self.assertEqual(is_plain(rung), at == len(rungs) - 1)
                if not is_plain(rung):
                    self.assertEqual(rungs[at + 1], behind(rung))
            self.assertTrue(is_ladder(rungs))
        self.assertEqual(ladder(thing=(0, 1, 0, 0)), ((0, 1, 0, 0),))

    def test_by_hand(self):
        self.assertEqual(ladder((7, 19, 3, 4)), ((7, 19, 3, 4), (5, 7, 3, 4), (2, 5, 1, 2)))
        self.assertEqual(ladder((3, 9, 1, 2)), ((3, 9, 1, 2), (0, 3, 1, 2)))

    def test_nearly_one(self):
        chance = Random(103)
        for _ in range(40):
            rungs = ladder(some_question(chance, 10 ** 12))
            self.assertTrue(is_ladder(rungs))
            self.assertFalse(is_ladder(list(rungs)))
            self.assertFalse(is_ladder(rungs + rungs[-1:]))
            self.assertFalse(is_ladder(rungs + ((0, 1, 0, 0),)))
            self.assertFalse(is_ladder(rungs[:-1]))
            for at, rung in enumerate(rungs):
                # What is left of a ladder from a rung on is one as well.
                self.assertTrue(is_ladder(rungs[at:]))
                self.assertFalse(is_ladder(put(rungs, at, list(rung))))
                self.assertFalse(is_ladder(put(rungs, at, None)))
                self.assertFalse(is_ladder(rungs[:at + 1] + rungs[at:]) and len(rungs) > at + 1)
                if at > 0:
                    for place in range(4):
                        self.assertFalse(is_ladder(put(rungs, at, put(rung, place, rung[place] + 1))))
                    self.assertFalse(is_ladder(rungs[:at]))
                    self.assertFalse(is_ladder(rungs[:at - 1] + rungs[at:]) and at > 1)

    def test_true_and_false_are_no_integers(self):
        self.assertEqual(ladder((2, 5, 1, 1)), ((2, 5, 1, 1), (1, 2, 1, 1)))
        self.assertFalse(is_ladder(((2, 5, 1, 1), (True, 2, 1, 1))))
        self.assertFalse(is_ladder(((2, 5, 1, 1), (1, 2, 1.0, 1))))
        self.assertFalse(is_ladder(((2, 5, True, 1), (1, 2, 1, 1))))
        self.assertFalse(is_ladder(((False, 1, 0, 0),)))

    def test_any_value(self):
        for thing in NO_QUESTIONS:
            self.assertFalse(is_ladder(thing))
            self.assertFalse(is_ladder((thing,)))
            self.assertFalse(is_ladder((QUESTION, thing)))
        self.assertFalse(is_ladder(QUESTION))
        self.assertFalse(is_ladder(()))
        self.assertTrue(is_ladder(thing=((0, 9, 1, 8),)))


class ManyHitsTest(unittest.TestCase):
    def test_beside_counting(self):
        for m in range(1, 8):
            for a in range(m):
                for b in range(m):
                    for high in range(m):
                        hits = [(a * number + b) % m <= high for number in range(18)]
                        for many in range(19):
                            self.assertEqual(many_hits(a, b, m, high, many), sum(hits[:many]))
        chance = Random(104)
        for _ in range(200):
            m = chance.randint(1, 10 ** 6)
            a, b, high, many = chance.randrange(m), chance.randrange(m), chance.randrange(m), chance.randint(0, 300)
            wanted = sum((a * number + b) % m <= high for number in range(many))
            self.assertEqual(many_hits(a, b, m, high, many), wanted)

    def test_great_ones(self):
        most = 10 ** 40
        self.assertEqual(many_hits(0, 0, 1, 0, most), most)
        self.assertEqual(many_hits(1, 0, most, most - 1, most), most)
        self.assertEqual(many_hits(1, 0, most, 5, most), 6)
        self.assertEqual(many_hits(1, most - 2, most, 5, most), 6)
        self.assertEqual(many_hits(1, most - 2, most, 5, 3), 1)
        self.assertEqual(many_hits(0, 5, most, 5, most), most)
        self.assertEqual(many_hits(0, 6, most, 5, most), 0)
        self.assertEqual(many_hits(a=3, b=0, m=most - 1, high=10, many=most - 1), 3 * 4)
        chance = Random(105)
        for _ in range(60):
            m = chance.randint(2, most)
            a, b, high, many = chance.randrange(m), chance.randrange(m), chance.randrange(m), chance.randint(1, most)
            # What is up to high and what is beyond are all; what comes behind some is what comes from there on.
            low = many_hits(a, b, m, high, many)
            rest = many_hits(a, (b - high - 1) % m, m, m - high - 2, many) if high < m - 1 else 0
            self.assertEqual(low + rest, many)
            first = chance.randint(0, many)
            self.assertEqual(low, many_hits(a, b, m, high, first) + many_hits(a, (a * first + b) % m, m, high, many - first))
            self.assertEqual(many_hits(a, b, m, high, 1), 1 if b <= high else 0)

    def test_goes_with_answer(self):
        chance = Random(106)
        for _ in range(60):
            step, modulus, low, high = question = some_question(chance, 10 ** 40)
            begin = -low % modulus
            found = answer(question)
            if found is None:
                self.assertEqual(many_hits(step, begin, modulus, high - low, modulus), 0)
            else:
                self.assertEqual(many_hits(step, begin, modulus, high - low, found), 0)
                self.assertEqual(many_hits(step, begin, modulus, high - low, found + 1), 1)

    def test_each_limit(self):
        good = (3, 4, 9, 5, 7)
        many_hits(*good)
        for at, edges in enumerate(((-1, 9), (-1, 9), (0, -1, 10 ** 40 + 1), (-1, 9), (-1, 10 ** 40 + 1))):
            for thing in ODD_THINGS + edges + ("3",):
                with self.assertRaises(OutOfPlace, msg=thing):
                    many_hits(*put(good, at, thing))
        for wrong in ((None,) * 5, (0, 0, 0, 0, 0), (4, 0, 4, 0, 1), (0, 4, 4, 0, 1), (0, 0, 4, 4, 1)):
            with self.assertRaises(OutOfPlace):
                many_hits(*wrong)


def shared_by_hand(one, other):
    others = serials_by_hand(other)
    for serial, text in enumerate(serials_by_hand(one)):
        if text in others:
            return serial, others.index(text)
    return None


class SharedTest(unittest.TestCase):
    def test_beside_the_lists(self):
        chance = Random(107)
        found = {}
        for _ in range(600):
            one = some_run(chance, some_counter(chance, 2, 5))
            other = some_run(chance, one[0])
            if chance.random() < 0.5:
                other = put(other, 3, chance.randint(1, 3))
            wanted = shared_by_hand(one, other)
            self.assertEqual(shared(one, other), wanted, (one, other))
            others = set(serials_by_hand(other))
            self.assertEqual(many_shared(one, other), sum(text in others for text in serials_by_hand(one)))
            found[wanted is None, wanted is not None and wanted[0] > 0, wanted is not None and wanted[1] > 0] = True
        self.assertEqual(len(found), 5)

    def test_every_step(self):
        counter = ("abcd", "abc")
        for step in range(12):
            for far_step in range(12):
                for many, far_many in ((1, 1), (3, 2), (12, 4), (30, 1)):
                    for begin in (0, 5):
                        one, other = (counter, begin, step, many, 2), (counter, 7, -far_step, far_many, 3)
                        self.assertEqual(shared(one, other), shared_by_hand(one, other))
                        others = set(serials_by_hand(other))
                        self.assertEqual(many_shared(one, other), sum(text in others for text in serials_by_hand(one)))

    def test_nothing_is_shared(self):
        one, other = (COUNTER, 0, 2, 10 ** 30, 1), (COUNTER, 1, -4, 10 ** 30, 1)
        self.assertIsNone(shared(one, other))
        self.assertEqual(many_shared(one, other), 0)
        late = (COUNTER, 0, 1, 5, 1), (COUNTER, 5, 0, 1, 1)
        self.assertIsNone(shared(*late))
        self.assertEqual(many_shared(*late), 0)
        self.assertEqual(shared(one=put(late[0], 3, 6), other=late[1]), (5, 0))
        self.assertEqual(many_shared(one=put(late[0], 3, 6), other=late[1]), 1)

    def test_all_serials_count(self):
        self.assertEqual(many_shared((COUNTER, 0, 1, 10 ** 30, 1), (COUNTER, 3, 0, 1, 1)), (10 ** 30 - 4) // 12 + 1)
        self.assertEqual(many_shared((COUNTER, 3, 0, 10 ** 30, 9), (COUNTER, 3, 1, 1, 1)), 10 ** 30)
        self.assertEqual(many_shared((COUNTER, 3, 5, 10 ** 30, 1), (COUNTER, 0, 1, 12, 1)), 10 ** 30)

    def test_great_runs(self):
        chance = Random(108)
        found = {}
        for _ in range(150):
            one, other = great_run(chance), great_run(chance)
            if chance.random() < 0.5:
                serial = chance.randrange(min(other[3], 10 ** 9))
                other = put(other, 1, (one[1] + 3 * one[2] - serial * other[2]) % 36 ** 12)
            told = shared(one, other)
            many = many_shared(one, other)
            found[told is None] = True
            self.assertEqual(told is None, many == 0)
            if told is not None:
                serial, far = told
                text = label(one, serial * one[4])
                self.assertEqual(label(other, far * other[4]), text)
                self.assertEqual(next_label(other, text, 0), far * other[4])
                self.assertTrue(serial < one[3] and far < other[3])
                self.assertTrue(many >= times(one, text) // one[4])
                if serial > 0:
                    self.assertEqual(many_shared(put(one, 3, serial), other), 0)
                self.assertEqual(many_shared(put(one, 3, serial + 1), other), 1)
        self.assertEqual(len(found), 2)

    def test_great_runs_by_hand(self):
        last = 36 ** 12 - 1
        one = (GREAT, 0, 1, 10 ** 30, 1)
        for begin, step, many in ((last, 0, 1), (last - 10, 1, 11), (last, -1, 1)):
            self.assertEqual(shared(one, (GREAT, begin, step, many, 1))[0], begin if step >= 0 else last)
        self.assertEqual(shared((GREAT, 5, 7, 10 ** 18, 1), (GREAT, 4, 36 ** 11, 36, 1)), (
            min(serial for k in range(36) for serial in [(k * 36 ** 11 - 1) * pow(7, -1, 36 ** 12) % 36 ** 12] if serial < 10 ** 18),
            shared((GREAT, 5, 7, 10 ** 18, 1), (GREAT, 4, 36 ** 11, 36, 1))[1],
        ))
        self.assertEqual(size(GREAT), 36 ** 12)
        self.assertEqual(text_at(GREAT, 0), "A" * 12)

    def test_refusals(self):
        for call in (shared, many_shared):
            for thing, part in RUN_FAULTS[::5] + RUN_FAULTS[-6:]:
                with self.assertRaises(BadRun, msg=thing) as caught:
                    call(thing, None)
                self.assertEqual(caught.exception.part, part)
                with self.assertRaises(BadRun, msg=thing) as caught:
                    call((GREAT, 0, 1, 1, 1), thing)
                self.assertEqual(caught.exception.part, part)
            for counter in (("ab", "xyz", "~!"), ("ab", "xyz"), ("abcdefghijkl",), GREAT):
                with self.assertRaises(OutOfPlace):
                    call(RUN, (counter, 0, 1, 1, 1))
                with self.assertRaises(OutOfPlace):
                    call((counter, 0, 1, 1, 1), RUN)


if __name__ == "__main__":
    unittest.main()
