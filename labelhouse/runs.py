"""Runs of labels: each serial shows a text of a counter, on some copies."""

from labelhouse.counters import is_counter, is_text, number_in, size_of, text_of
from labelhouse.errors import BadRun, OutOfPlace
from labelhouse.rests import least_factor, period_of
from labelhouse.values import is_between, is_row, is_whole

MOST_STEP = 10 ** 18
MOST_MANY = 10 ** 30
MOST_COPIES = 1000


def need_run(thing):
    """Give a RUN back; refuse anything else with its first wrong part."""
    if not is_row(thing, 5):
        raise BadRun("form")
    counter, begin, step, many, copies = thing
    if not is_counter(counter):
        raise BadRun("counter")
    if not is_between(begin, 0, size_of(counter) - 1):
        raise BadRun("begin")
    if not is_between(step, -MOST_STEP, MOST_STEP):
        raise BadRun("step")
    if not is_between(many, 1, MOST_MANY):
        raise BadRun("many")
    if not is_between(copies, 1, MOST_COPIES):
        raise BadRun("copies")
    return thing


def need_text(counter, text):
    """Refuse what is no TEXT of a COUNTER."""
    if not is_text(counter, text):
        raise OutOfPlace("this is no text of the counter")


def text_of_serial(run, serial):
    """The TEXT that a SERIAL shows."""
    counter, begin, step = run[:3]
    return text_of(counter, (begin + serial * step) % size_of(counter))


def round_length(run):
    """The ROUND of a RUN that has been looked at."""
    return period_of(run[2], size_of(run[0]))


def first_serial(run, text):
    """The least SERIAL that shows a TEXT, however many there are; or None."""
    counter, begin, step = run[:3]
    return least_factor(step, number_in(counter, text) - begin, size_of(counter))


def label(run, number):
    """The TEXT of the label with a number."""
    need_run(run)
    if not is_between(number, 0, run[3] * run[4] - 1):
        raise OutOfPlace("this is no number of a label")
    return text_of_serial(run, number // run[4])


def round_of(run):
    """The ROUND of a RUN: behind how many SERIALS the same TEXT comes again."""
    need_run(run)
    return round_length(run)


def first_again(run):
    """The least SERIAL whose TEXT a SERIAL ahead shows, or None."""
    need_run(run)
    around = round_length(run)
    return around if around < run[3] else None


def times(run, text):
    """How many labels show a TEXT."""
    need_run(run)
    need_text(run[0], text)
    serial = first_serial(run, text)
    if serial is None:
        return 0
    # It is one of the first round; where the run ends ahead of it, this is -1 rounds and one.
    return ((run[3] - 1 - serial) // round_length(run) + 1) * run[4]


def next_label(run, text, number):
    """The first label from a number on that shows a TEXT, or None."""
    need_run(run)
    need_text(run[0], text)
    if not is_whole(number) or number < 0:
        raise OutOfPlace("this is no integer from 0 on")
    serial = first_serial(run, text)
    if serial is None:
        return None
    many, copies = run[3:]
    begun = number // copies
    around = round_length(run)
    if serial < begun:
        # The first one of its rounds that does not stand ahead.
        serial += (begun - serial + around - 1) // around * around
    if serial >= many:
        return None
    return max(number, serial * copies)


def nearest(step, modulus, many):
    """The nearest rests on both sides of the rest 0 among so many multiples of a step from 1 on.

    They are two pairs, of how far it is and which multiple it is, for going on and for going back.
    """
    on, back = (step, 1), (modulus - step, 1)
    while on[1] + back[1] <= many:
        # Their sum is a nearer one on the side that is farther; so it is again and again until that side is nearer.
        if on[0] > back[0]:
            often = min((on[0] - 1) // back[0], (many - on[1]) // back[1])
            on = (on[0] - often * back[0], on[1] + often * back[1])
        else:
            often = min((back[0] - 1) // on[0], (many - back[1]) // on[1])
            back = (back[0] - often * on[0], back[1] + often * on[1])
    return on, back


def gaps(run):
    """The pairs of each GAP of a RUN and how many of it there are."""
    need_run(run)
    around = round_length(run)
    unit = size_of(run[0]) // around
    shown = min(run[3], around)
    on, back = nearest(run[2] // unit % around, around, shown - 1)
    found = {}
    # From a SERIAL the next number is shown by going on to a later SERIAL, else back to one ahead, else by both.
    for length, many in (
        (on[0], shown - on[1]), (back[0], shown - back[1]), (on[0] + back[0], on[1] + back[1] - shown),
    ):
        if many > 0:
            found[length * unit] = found.get(length * unit, 0) + many
    return tuple(sorted(list(found.items())))
