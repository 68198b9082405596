"""Which multiple first has a rest between two bounds, and what two runs share."""

from math import gcd

from labelhouse.counters import size_of
from labelhouse.errors import OutOfPlace
from labelhouse.rests import inverse, least_factor
from labelhouse.runs import need_run, round_length
from labelhouse.values import is_between, is_row, is_whole

GREATEST = 10 ** 40


def is_question(value):
    """Whether any value is a QUESTION."""
    if not is_row(value, 4) or not all([is_whole(part) for part in value]):
        return False
    step, modulus, low, high = value
    return 0 <= step < modulus and 0 <= low <= high < modulus


def need_question(thing):
    """Give a QUESTION back; refuse anything else."""
    if not is_question(thing):
        raise OutOfPlace("this is no question")
    return thing


def least_times(step, bound):
    """The least number by which a step is multiplied to be at least a bound."""
    return (bound + step - 1) // step


def is_plain(question):
    """Whether a QUESTION is plain."""
    step, _, low, high = question
    return low == 0 or step == 0 or least_times(step, low) * step <= high


def question_behind(question):
    """The QUESTION behind one that is not plain."""
    step, modulus, low, high = question
    return modulus % step, step, -high % step, -low % step


def ladder_of(question):
    """The list of a QUESTION and all behind it."""
    rungs = [question]
    while not is_plain(rungs[-1]):
        rungs.append(question_behind(rungs[-1]))
    return rungs


def ladder(thing):
    """The LADDER of a QUESTION."""
    need_question(thing)
    return tuple(ladder_of(thing))


def plain_answer(question):
    """The ANSWER of a plain QUESTION, or None."""
    step, _, low, _ = question
    if low == 0:
        return 0
    if step == 0:
        return None
    return least_times(step, low)


def answer_of(question):
    """The ANSWER of a QUESTION that has been looked at, or None."""
    rungs = ladder_of(question)
    found = plain_answer(rungs[-1])
    if found is None:
        return None
    for step, modulus, low, _ in rungs[-2::-1]:
        found = least_times(step, low + modulus * found)
    return found


def answer(thing):
    """The ANSWER of a QUESTION, or None."""
    need_question(thing)
    return answer_of(thing)


def is_ladder(thing):
    """Whether any value is the LADDER of some QUESTION."""
    if not isinstance(thing, tuple) or len(thing) == 0 or not all([is_question(rung) for rung in thing]):
        return False
    for rung, behind in zip(thing, thing[1:]):
        if is_plain(rung) or question_behind(rung) != behind:
            return False
    return is_plain(thing[-1])


def least_hit(step, begin, modulus, high):
    """The least number T from 0 on with a rest of step * T + begin by a modulus from 0 to high; or None."""
    begin = begin % modulus
    if begin <= high:
        return 0
    return answer_of((step % modulus, modulus, modulus - begin, modulus - begin + high))


def sum_of_parts(many, modulus, step, begin):
    """The sum of (step * T + begin) // modulus for T from 0 on and less than many."""
    total = 0
    while many > 0:
        total += many * (many - 1) // 2 * (step // modulus) + many * (begin // modulus)
        step, begin = step % modulus, begin % modulus
        # The rest counts the points below a line; from its other side there are fewer columns.
        last = step * many + begin
        many, begin = divmod(last, modulus)
        step, modulus = modulus, step
    return total


def hits(step, begin, modulus, high, many):
    """As many_hits, of what has been looked at."""
    below = sum_of_parts(many, modulus, step, begin)
    return many + below - sum_of_parts(many, modulus, step, begin + modulus - high - 1)


def many_hits(a, b, m, high, many):
    """How many T from 0 on and less than many there are with a rest of a * T + b by m from 0 to high."""
    if not is_between(m, 1, GREATEST):
        raise OutOfPlace("m is an integer from 1 to 10 ** 40")
    for value in (a, b, high):
        if not is_between(value, 0, m - 1):
            raise OutOfPlace("a, b and high are integers from 0 to m - 1")
    if not is_between(many, 0, GREATEST):
        raise OutOfPlace("many is an integer from 0 to 10 ** 40")
    return hits(a, b, m, high, many)


def need_like_runs(one, other):
    """Refuse two things that are no RUNS, and two RUNS with unlike COUNTERS."""
    need_run(one)
    need_run(other)
    if one[0] != other[0]:
        raise OutOfPlace("these runs have unlike counters")


def meeting(one, other):
    """None, or which SERIALS of one show what SERIALS of other show, however many both have.

    It is a tuple (FIRST, PERIOD, STEP, BEGIN, ROUND): the SERIAL FIRST + T * PERIOD of one shows what the SERIAL of
    other shows that is the rest of STEP * T + BEGIN by ROUND, the ROUND of other.
    """
    modulus = size_of(one[0])
    begin, step = one[1:3]
    far_begin, far_step = other[1:3]
    common = gcd(far_step, modulus)
    first = least_factor(step, far_begin - begin, common)
    if first is None:
        return None
    around = round_length(other)
    back = inverse(far_step // common, around)
    period = common // gcd(step, common)
    place = (begin + first * step - far_begin) // common * back % around
    return first, period, period * step // common * back % around, place, around


def shared(one, other):
    """The least SERIALS of one and of other that show a TEXT which both show; or None."""
    need_like_runs(one, other)
    met = meeting(one, other)
    if met is None:
        return None
    first, period, step, place, around = met
    turns = least_hit(step, place, around, min(other[3], around) - 1)
    if turns is None or first + turns * period >= one[3]:
        return None
    return first + turns * period, (step * turns + place) % around


def many_shared(one, other):
    """How many SERIALS of one show TEXTS that other shows."""
    need_like_runs(one, other)
    met = meeting(one, other)
    if met is None:
        return 0
    first, period, step, place, around = met
    # FIRST is less than PERIOD, so there are none where the run ends ahead of it.
    many = (one[3] - 1 - first) // period + 1
    return hits(step, place, around, min(other[3], around) - 1, many)
