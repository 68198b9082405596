"""Jams: which labels of a run are lost, and the jobs that print them again.

The heights of what is lost are an ascending list of pairs (SERIAL, HEIGHT): of this SERIAL, and of those behind it that
are less than the SERIAL of the next pair, so many labels are lost; the last HEIGHT is 0.
"""

from labelhouse.errors import BadPaper, OutOfPlace, TooGreat
from labelhouse.runs import need_run
from labelhouse.values import is_between, is_row, is_whole

MOST_STRETCHES = 60
MOST_SETUP = 10 ** 6
MOST_JOBS = 10000
MOST_PRICED = 100000


def is_stretch(value, end):
    """Whether a value is a pair of integers from 0 to an end, the first one less."""
    return is_row(value, 2) and is_between(value[1], 1, end) and is_between(value[0], 0, value[1] - 1)


def are_lost(run, value):
    """Whether a value is LOST of a RUN that has been looked at."""
    if not isinstance(value, tuple) or len(value) > MOST_STRETCHES:
        return False
    if not all([is_stretch(pair, run[3] * run[4]) for pair in value]):
        return False
    return all([one[1] <= other[0] for one, other in zip(value, value[1:])])


def need_lost(run, lost):
    """Refuse what is no RUN, then what is not LOST of it."""
    need_run(run)
    if not are_lost(run, lost):
        raise OutOfPlace("this is not what can be lost of the run")


def lost_of(run, lost, serial):
    """How many labels of a SERIAL are lost; none of what is ahead of the run or behind it."""
    begin = serial * run[4]
    end = begin + run[4]
    return sum([max(0, min(behind, end) - max(first, begin)) for first, behind in lost])


def many_lost(run, lost, serial):
    """How many labels of a SERIAL are lost."""
    need_lost(run, lost)
    if not is_between(serial, 0, run[3] - 1):
        raise OutOfPlace("this is no serial of the run")
    return lost_of(run, lost, serial)


def heights_of(run, lost):
    """The heights of what is lost."""
    changing = {}
    for first, behind in lost:
        for serial in (first // run[4], (behind - 1) // run[4]):
            changing[serial] = True
            changing[serial + 1] = True
    return [(serial, lost_of(run, lost, serial)) for serial in sorted(changing)]


def steps_of(heights):
    """A list of triples (SERIAL, HEIGHT, HEIGHT AHEAD)."""
    ahead = [0] + [height for _, height in heights]
    return [(serial, height, less) for (serial, height), less in zip(heights, ahead)]


def rises_of(heights):
    """The ascending list of pairs (SERIAL, K): so many more labels are lost of it than of the one ahead."""
    return [(serial, height - less) for serial, height, less in steps_of(heights) if height > less]


def fewest_of(heights):
    """The number of JOBS without which what is lost is not made good."""
    return sum([more for _, more in rises_of(heights)])


def stretches_of(heights, level):
    """The ascending list of pairs (FROM, TO) of SERIALS of which at least so many labels are lost."""
    found = []
    begin = None
    for serial, height in heights:
        if height >= level and begin is None:
            begin = serial
        if height < level and begin is not None:
            found.append((begin, serial))
            begin = None
    return found


def taken_together(stretches, setup):
    """The stretches, those as one between which fewer than SETUP SERIALS lie."""
    found = []
    for begin, end in stretches:
        if len(found) > 0 and begin - found[-1][1] < setup:
            found[-1] = (found[-1][0], end)
        else:
            found.append((begin, end))
    return found


def layers_of(heights, setup):
    """A list of pairs: how many levels, one above the other, are alike, and the JOBS of each of them."""
    levels = sorted(set([height for _, height in heights if height > 0]))
    return [
        (level - below, taken_together(stretches_of(heights, level), setup))
        for below, level in zip([0] + levels, levels)
    ]


def jobs_in(layers):
    """All JOBS of layers."""
    return tuple([job for many, stretches in layers for job in stretches for _ in range(many)])


def labels_in(stretches):
    """How many numbers there are in stretches together."""
    return sum([end - begin for begin, end in stretches])


def few_heights(run, lost):
    """The heights of what is lost; refused where it takes too many JOBS."""
    need_lost(run, lost)
    heights = heights_of(run, lost)
    if fewest_of(heights) > MOST_JOBS:
        raise TooGreat(MOST_JOBS)
    return heights


def fewest_jobs(run, lost):
    """FEWEST: the least number of JOBS that make good for what is lost."""
    need_lost(run, lost)
    return fewest_of(heights_of(run, lost))


def jobs(run, lost):
    """So many JOBS that make good for what is lost."""
    return jobs_in(layers_of(few_heights(run, lost), 0))


def jobs_paper(run, lost):
    """A paper of FEWEST."""
    heights = few_heights(run, lost)
    return jobs_in(layers_of(heights, 0)), tuple(rises_of(heights))


def are_jobs(run, value):
    """Whether a value is a tuple of JOBS."""
    return isinstance(value, tuple) and all([is_stretch(job, run[3]) for job in value])


def surpluses(run, lost, done):
    """By how many labels JOBS print more than are lost, wherever this changes along the SERIALS."""
    changes = {}
    for begin, end in done:
        changes[begin] = changes.get(begin, 0) + 1
        changes[end] = changes.get(end, 0) - 1
    for serial, height, less in steps_of(heights_of(run, lost)):
        changes[serial] = changes.get(serial, 0) + less - height
    found = []
    surplus = 0
    for serial in sorted(changes):
        surplus += changes[serial]
        found.append(surplus)
    return found


def make_good(run, lost, done):
    """Whether JOBS print as many labels of each SERIAL as are lost."""
    return all([surplus == 0 for surplus in surpluses(run, lost, done)])


def cover(run, lost, done):
    """Whether JOBS print at least as many labels of each SERIAL as are lost."""
    return all([surplus >= 0 for surplus in surpluses(run, lost, done)])


def is_rise(run, lost, value):
    """Whether a value is a pair of a SERIAL and a number of labels, at least so many more of it being lost."""
    if not is_row(value, 2) or not is_between(value[0], 0, run[3] - 1) or not is_whole(value[1]):
        return False
    serial, more = value
    return 1 <= more <= lost_of(run, lost, serial) - lost_of(run, lost, serial - 1)


def are_rises(run, lost, value):
    """Whether a value is a tuple of rises, each of a greater SERIAL than the one ahead."""
    if not isinstance(value, tuple) or not all([is_rise(run, lost, pair) for pair in value]):
        return False
    return all([one[0] < other[0] for one, other in zip(value, value[1:])])


def check_jobs(run, lost, paper):
    """FEWEST, as a paper shows it."""
    need_lost(run, lost)
    if not is_row(paper, 2):
        raise BadPaper("form")
    done, rises = paper
    if not are_jobs(run, done) or not make_good(run, lost, done):
        raise BadPaper("jobs")
    if not are_rises(run, lost, rises) or sum([more for _, more in rises]) != len(done):
        raise BadPaper("rises")
    return len(done)


def need_setup(setup):
    """Refuse what is no SETUP."""
    if not is_between(setup, 0, MOST_SETUP):
        raise OutOfPlace("this is no setup")


def least_price(run, lost, setup):
    """The least PRICE of JOBS that cover what is lost."""
    need_lost(run, lost)
    need_setup(setup)
    layers = layers_of(heights_of(run, lost), setup)
    prices = [many * (setup * len(stretches) + labels_in(stretches)) for many, stretches in layers]
    return sum(prices) - labels_in(lost)


def price(run, lost, setup, jobs):
    """The PRICE of JOBS that cover what is lost."""
    need_lost(run, lost)
    need_setup(setup)
    if not isinstance(jobs, tuple) or len(jobs) > MOST_PRICED or not are_jobs(run, jobs):
        raise OutOfPlace("these are no jobs, or too many")
    if not cover(run, lost, jobs):
        raise OutOfPlace("these jobs do not cover what is lost")
    return setup * len(jobs) + labels_in(jobs) - labels_in(lost)


def cheapest(run, lost, setup):
    """JOBS that cover what is lost with the least PRICE."""
    heights = few_heights(run, lost)
    need_setup(setup)
    return jobs_in(layers_of(heights, setup))
