"""many_lost, fewest_jobs, jobs, jobs_paper, check_jobs, least_price, price and cheapest: what is lost, and printed again."""

import unittest
from random import Random

from labelhouse.errors import BadPaper, BadRun, OutOfPlace, TooGreat
from labelhouse.jams import check_jobs, cheapest, fewest_jobs, jobs, jobs_paper, least_price, many_lost, price

from samples import ODD_THINGS, put
from test_counters import COUNTER
from test_runs import RUN_FAULTS

RUN = (COUNTER, 5, -7, 10, 3)
LOST = ((1, 2), (2, 10), (11, 20), (29, 30))
GREAT_RUN = (COUNTER, 0, 1, 10 ** 30, 1000)
# Sixty stretches of one serial each, all copies of which are lost, with one serial between.
MUCH = tuple((number * 2000, number * 2000 + 1000) for number in range(60))

# Things that are LOST of no RUN; () is, of each.
NO_LOST = tuple(thing for thing in ODD_THINGS if thing != ()) + (
    list(LOST), LOST + (None,), LOST + ((29, 30),), ((0, 0),), ((5, 5),), ((-1, 2),), ((0, 31),), ((30, 31),), ((2, 1),), ([0, 1],),
    ((0, 1, 2),), ((0,),), ((0, True),), ((False, 1),), ((0, 1.0),), (("0", 1),), ((5, 6), (4, 5)), ((1, 3), (2, 4)),
    ((1, 9), (2, 4)), ((1, 3), (1, 3)), 0, LOST[0],
)
NO_SETUPS = ODD_THINGS + (-1, 10 ** 6 + 1, "0")
NO_JOBS = tuple(thing for thing in ODD_THINGS if thing != ()) + (
    [(0, 10)], ((0, 11),), ((-1, 3),), ((3, 3),), ((4, 3),), ((0, 3, 1),), ([0, 3],), ((0, True),), ((0.0, 3),), ((0,),), (0, 3),
)
CALLS = (
    (many_lost, (None,)), (fewest_jobs, ()), (jobs, ()), (jobs_paper, ()), (check_jobs, (None,)), (least_price, (None,)),
    (price, (None, None)), (cheapest, (None,)),
)


def some_run(chance):
    return (COUNTER, 0, 1, chance.randint(1, 9), chance.choice((1, 1, 2, 3, 5)))


def some_lost(chance, run, most=6):
    """LOST of a small RUN: stretches within one serial, across several, side by side."""
    end = run[3] * run[4]
    numbers = sorted(chance.randint(0, end) for _ in range(2 * chance.randint(0, most)))
    if chance.random() < 0.3:
        numbers = sorted(numbers + numbers[1:-1])
    pairs = zip(numbers[::2], numbers[1::2])
    return tuple((first, behind) for first, behind in pairs if first < behind)[:60]


def lost_by_hand(run, lost):
    """How many labels of each SERIAL are lost, label by label."""
    counts = [0] * run[3]
    for first, behind in lost:
        for number in range(first, behind):
            counts[number // run[4]] += 1
    return counts


def printed_by_hand(run, done):
    counts = [0] * run[3]
    for begin, end in done:
        for serial in range(begin, end):
            counts[serial] += 1
    return counts


def rises_by_hand(counts):
    return tuple(
        (serial, many - ahead) for serial, (ahead, many) in enumerate(zip([0] + counts, counts)) if many > ahead
    )


def least_by_hand(counts, setup):
    """The least PRICE, going on serial by serial with each number of labels that are printed."""
    most = max(counts)
    costs = {0: 0}
    for many in counts:
        following = {}
        for printing in range(many, most + 1):
            following[printing] = min(
                cost + setup * max(0, printing - ahead) + printing - many for ahead, cost in costs.items()
            )
        costs = following
    return min(costs.values())


def some_great_lost(chance, run, most=60):
    end = run[3] * run[4]
    numbers = set()
    while len(numbers) < most:
        numbers.add(chance.randint(0, end) if chance.random() < 0.6 else chance.randint(0, 5000))
    numbers = sorted(numbers)
    return tuple(zip(numbers[::2], numbers[1::2]))


class SmallJamsTest(unittest.TestCase):
    def test_named(self):
        self.assertEqual([many_lost(RUN, LOST, serial) for serial in range(10)], [2, 3, 3, 2, 3, 3, 2, 0, 0, 1])
        self.assertEqual(fewest_jobs(RUN, LOST), 5)
        self.assertEqual(sorted(jobs(RUN, LOST)), [(0, 7), (0, 7), (1, 3), (4, 6), (9, 10)])
        self.assertEqual(jobs_paper(RUN, LOST)[1], ((0, 2), (1, 1), (4, 1), (9, 1)))
        self.assertEqual([least_price(RUN, LOST, setup) for setup in (0, 1, 2, 3, 9)], [0, 5, 9, 12, 30])
        self.assertEqual(fewest_jobs(RUN, ()), 0)
        self.assertEqual(jobs_paper(RUN, ()), ((), ()))
        self.assertEqual(check_jobs(RUN, (), ((), ())), 0)
        self.assertEqual((least_price(RUN, (), 5), cheapest(RUN, (), 5), price(RUN, (), 5, ())), (0, (), 0))

    def test_beside_all_labels(self):
        chance = Random(201)
        found = {}
        for _ in range(600):
            run = some_run(chance)
            lost = some_lost(chance, run)
            counts = lost_by_hand(run, lost)
            self.assertEqual([many_lost(run, lost, serial) for serial in range(run[3])], counts)
            rises = rises_by_hand(counts)
            many = sum(more for _, more in rises)
            self.assertEqual(fewest_jobs(run, lost), many)
            done = jobs(run, lost)
            self.assertEqual((len(done), printed_by_hand(run, done)), (many, counts))
            self.assertEqual(jobs(run, lost), done)
            paper = jobs_paper(run, lost)
            self.assertEqual((len(paper[0]), printed_by_hand(run, paper[0]), paper[1]), (many, counts, rises))
            self.assertEqual(check_jobs(run, lost, paper), many)
            self.assertEqual(jobs_paper(run, lost), paper)
            found[min(many, 5), max(counts) > 1] = True
            found["side"] = found.get("side", False) or any(one[1] == other[0] for one, other in zip(lost, lost[1:]))
        self.assertTrue(found["side"] and len(found) >= 8, found)

    def test_prices(self):
        chance = Random(202)
        found = {}
        for _ in range(500):
            run = some_run(chance)
            lost = some_lost(chance, run)
            counts = lost_by_hand(run, lost)
            for setup in (0, 1, 2, 3, chance.randint(2, 12), 10 ** 6):
                least = least_by_hand(counts, setup)
                self.assertEqual(least_price(run, lost, setup), least, (run, lost, setup))
                done = cheapest(run, lost, setup)
                made = printed_by_hand(run, done)
                self.assertTrue(all(many >= wanted for many, wanted in zip(made, counts)))
                self.assertEqual(setup * len(done) + sum(made) - sum(counts), least)
                self.assertEqual(price(run, lost, setup, done), least)
                self.assertEqual(cheapest(run, lost, setup), done)
                found[len(done) < fewest_jobs(run, lost), sum(made) > sum(counts)] = True
        self.assertEqual(sorted(found), [(False, False), (True, True)])

    def test_price_of_any_jobs(self):
        chance = Random(203)
        found = {True: 0, False: 0}
        for _ in range(800):
            run = some_run(chance)
            lost = some_lost(chance, run, 2)
            counts = lost_by_hand(run, lost)
            done = []
            for _ in range(chance.randint(0, 9)):
                begin = chance.randrange(run[3])
                done.append((begin, chance.randint(begin + 1, run[3])))
            made = printed_by_hand(run, done)
            covering = all(many >= wanted for many, wanted in zip(made, counts))
            found[covering] += 1
            if covering:
                self.assertEqual(price(run, lost, 7, tuple(done)), 7 * len(done) + sum(made) - sum(counts))
            else:
                with self.assertRaises(OutOfPlace):
                    price(run, lost, 7, tuple(done))
        self.assertTrue(min(found.values()) > 100, found)

    def test_by_name(self):
        self.assertEqual(many_lost(run=RUN, lost=LOST, serial=1), 3)
        self.assertEqual(fewest_jobs(run=RUN, lost=LOST), 5)
        done = jobs(run=RUN, lost=LOST)
        self.assertEqual(check_jobs(run=RUN, lost=LOST, paper=jobs_paper(run=RUN, lost=LOST)), 5)
        self.assertEqual(least_price(run=RUN, lost=LOST, setup=2), 9)
        self.assertEqual(price(run=RUN, lost=LOST, setup=2, jobs=done), 10)
        self.assertEqual(price(RUN, LOST, 2, jobs=cheapest(run=RUN, lost=LOST, setup=2)), 9)


class PaperTest(unittest.TestCase):
    def refused(self, paper, part):
        with self.assertRaises(BadPaper, msg=paper) as caught:
            check_jobs(RUN, LOST, paper)
        self.assertEqual(caught.exception.part, part, paper)

    def test_form(self):
        done, rises = jobs_paper(RUN, LOST)
        for paper in ODD_THINGS + ([done, rises], (done,), (done, rises, rises), (None, None, None)):
            if not (isinstance(paper, tuple) and len(paper) == 2):
                self.refused(paper, "form")

    def test_jobs(self):
        done, rises = jobs_paper(RUN, LOST)
        for thing in NO_JOBS + ((),):
            self.refused((thing, None), "jobs")
        for at in range(len(done)):
            self.refused((done[:at] + done[at + 1:], rises), "jobs")
            self.refused((done + (done[at],), rises), "jobs")
            begin, end = done[at]
            for other in ((begin - 1, end), (begin + 1, end), (begin, end - 1), (begin, end + 1), [begin, end], (begin,), None):
                self.refused((put(done, at, other), rises), "jobs")
        self.refused((list(done), rises), "jobs")
        for other in ((3, 3), (0, 0), (10, 10), (4, 3)):
            self.refused((done + (other,), rises), "jobs")

    def test_rises(self):
        done, rises = jobs_paper(RUN, LOST)
        for thing in ODD_THINGS + (list(rises), rises[::-1], rises[0]):
            self.refused((done, thing), "rises")
        for at, (serial, more) in enumerate(rises):
            self.refused((done, rises[:at] + rises[at + 1:]), "rises")
            for pair in (
                (serial, more - 1), (serial, more + 1), (serial - 1, more), (serial + 1, more), [serial, more], (serial,),
                (serial, more, 0), (serial, None), (serial, float(more)), (serial, True) if more > 1 else None, None,
                (10, more), (-1, more), (str(serial), more),
            ):
                self.refused((done, put(rises, at, pair)), "rises")
        # A serial twice, a serial of which no more labels are lost, and one behind all.
        self.refused((done, ((0, 1),) + rises[:1] + rises[1:]), "rises")
        self.refused((done, ((0, 1), (0, 1)) + rises[1:]), "rises")
        self.refused((done + ((9, 10),), rises + ((9, 1),)), "jobs")
        # No label more is no rise.
        self.refused((done, rises[:2] + ((2, 0),) + rises[2:]), "rises")
        self.refused((done, rises[:1] + ((1, 2), (2, -1)) + rises[2:]), "rises")
        # True is no SERIAL and no number of labels.
        self.refused((done, ((0, 2), (True, 1)) + rises[2:]), "rises")
        self.refused((done, ((0, 2), (1, True)) + rises[2:]), "rises")

    def test_more_jobs_than_fewest(self):
        done, rises = jobs_paper(RUN, LOST)
        begin, end = max(done, key=lambda job: job[1] - job[0])
        others = tuple(job for job in done if job != (begin, end)) + ((begin, end - 1), (end - 1, end), (begin, end))
        self.assertEqual(printed_by_hand(RUN, others), lost_by_hand(RUN, LOST))
        for shown in (rises, rises + ((6, 1),), rises[:-1] + ((9, 2),), (), None):
            self.refused((others, shown), "rises")

    def test_any_order(self):
        done, rises = jobs_paper(RUN, LOST)
        for row in (done[::-1], tuple(sorted(done)), tuple(sorted(done, reverse=True))):
            self.assertEqual(check_jobs(RUN, LOST, (row, rises)), 5)
        self.assertEqual(check_jobs(RUN, LOST, (((0, 3), (0, 6), (1, 7), (4, 7), (9, 10)), rises)), 5)

    def test_more_than_ten_thousand(self):
        done = tuple((number * 2, number * 2 + 1) for number in range(60) for _ in range(1000))
        paper = (done, tuple((number * 2, 1000) for number in range(60)))
        self.assertEqual(check_jobs(GREAT_RUN, MUCH, paper), 60000)


class GreatJamsTest(unittest.TestCase):
    def test_great_runs(self):
        chance = Random(204)
        found = {}
        for _ in range(12):
            lost = some_great_lost(chance, GREAT_RUN, chance.choice((10, 40, 120)))
            self.assertEqual(many_lost(GREAT_RUN, lost, 10 ** 30 - 1), sum(
                max(0, behind - max(first, 10 ** 33 - 1000)) for first, behind in lost
            ))
            near = {number // 1000 + by for pair in lost for number in pair for by in (-1, 0, 1)}
            serials = sorted(serial for serial in near if 0 <= serial < 10 ** 30)
            counts = [many_lost(GREAT_RUN, lost, serial) for serial in serials]
            many = sum(more for _, more in rises_by_hand(counts))
            self.assertEqual(fewest_jobs(GREAT_RUN, lost), many)
            found[many > 10000] = True
            if many > 10000:
                self.check_too_many(lost)
            else:
                done = jobs(GREAT_RUN, lost)
                self.assertEqual(sum(end - begin for begin, end in done), sum(end - begin for begin, end in lost))
                self.assertEqual(check_jobs(GREAT_RUN, lost, jobs_paper(GREAT_RUN, lost)), many)
                self.assertEqual(price(GREAT_RUN, lost, 10 ** 6, done), many * 10 ** 6)
                for setup in (0, 3, 10 ** 6):
                    least = least_price(GREAT_RUN, lost, setup)
                    self.assertEqual(price(GREAT_RUN, lost, setup, cheapest(GREAT_RUN, lost, setup)), least)
                    self.assertLessEqual(least, many * setup)
        self.assertEqual(len(found), 2)

    def check_too_many(self, lost):
        for call in (jobs, jobs_paper):
            with self.assertRaises(TooGreat) as caught:
                call(GREAT_RUN, lost)
            self.assertEqual(caught.exception.most, 10000)
        with self.assertRaises(TooGreat) as caught:
            cheapest(GREAT_RUN, lost, 5)
        self.assertEqual(caught.exception.most, 10000)

    def test_too_many_jobs(self):
        self.assertEqual(fewest_jobs(GREAT_RUN, MUCH), 60000)
        self.check_too_many(MUCH)
        self.assertEqual(least_price(GREAT_RUN, MUCH, 1), 60000)
        self.assertEqual(least_price(GREAT_RUN, MUCH, 2), 1000 * (2 + 59))
        # Just so many are not too many; one more is.
        self.assertEqual(len(jobs(GREAT_RUN, MUCH[:10])), 10000)
        self.assertEqual(len(cheapest(GREAT_RUN, MUCH[:10], 10 ** 6)), 1000)
        self.assertEqual(check_jobs(GREAT_RUN, MUCH[:10], jobs_paper(GREAT_RUN, MUCH[:10])), 10000)
        self.check_too_many(MUCH[:10] + ((10 ** 6, 10 ** 6 + 1),))

    def test_the_whole_run(self):
        lost = ((0, 10 ** 33),)
        self.assertEqual(jobs(GREAT_RUN, lost), ((0, 10 ** 30),) * 1000)
        self.assertEqual(many_lost(GREAT_RUN, lost, 0), 1000)
        self.assertEqual(least_price(GREAT_RUN, lost, 10 ** 6), 10 ** 9)
        run = put(put(GREAT_RUN, 3, 1), 4, 1)
        self.assertEqual(jobs_paper(run, ((0, 1),)), (((0, 1),), ((0, 1),)))

    def test_many_jobs_with_a_price(self):
        run = put(RUN, 3, 10 ** 30)
        done = tuple((number, number + 1) for number in range(100000))
        self.assertEqual(price(run, LOST[:1], 1, done), 100000 + 100000 - 1)
        with self.assertRaises(OutOfPlace):
            price(run, LOST[:1], 1, done + ((0, 1),))


class RefusalsTest(unittest.TestCase):
    def test_run_first(self):
        for call, rest in CALLS:
            for thing, part in RUN_FAULTS:
                with self.assertRaises(BadRun) as caught:
                    call(thing, None, *rest)
                self.assertEqual(caught.exception.part, part)

    def test_lost(self):
        for call, rest in CALLS:
            for lost in NO_LOST:
                with self.assertRaises(OutOfPlace, msg=lost):
                    call(RUN, lost, *rest)
        sixty = tuple((number * 2, number * 2 + 1) for number in range(61))
        run = put(RUN, 3, 100)
        self.assertEqual(fewest_jobs(run, sixty[:60]), sum(more for _, more in rises_by_hand(lost_by_hand(run, sixty[:60]))))
        with self.assertRaises(OutOfPlace):
            fewest_jobs(run, sixty)
        self.assertEqual(fewest_jobs(RUN, ((0, 30),)), 3)

    def test_serial(self):
        for serial in ODD_THINGS + (-1, 10, "0"):
            with self.assertRaises(OutOfPlace):
                many_lost(RUN, LOST, serial)

    def test_setup(self):
        for call, rest in ((least_price, ()), (price, (None,)), (price, (jobs(RUN, LOST),)), (cheapest, ())):
            for setup in NO_SETUPS:
                with self.assertRaises(OutOfPlace, msg=setup):
                    call(RUN, LOST, setup, *rest)
        self.assertEqual(price(RUN, LOST, 10 ** 6, jobs(RUN, LOST)), 5 * 10 ** 6)
        # Too many jobs are told of what is lost, so they are refused ahead of the setup.
        with self.assertRaises(TooGreat):
            cheapest(GREAT_RUN, MUCH, None)

    def test_jobs(self):
        for thing in NO_JOBS + ((),):
            with self.assertRaises(OutOfPlace, msg=thing):
                price(RUN, LOST, 5, thing)
            if isinstance(thing, tuple) and thing:
                # What is no JOB is refused beside all that are wanted, too.
                with self.assertRaises(OutOfPlace, msg=thing):
                    price(RUN, LOST, 5, jobs(RUN, LOST) + thing)


if __name__ == "__main__":
    unittest.main()
