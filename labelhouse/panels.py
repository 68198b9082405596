"""Panels: two hands that show texts of counters, each going on in its own time."""

from math import lcm

from labelhouse.counters import is_counter, is_text, size_of
from labelhouse.errors import OutOfPlace
from labelhouse.ladders import least_hit
from labelhouse.runs import MOST_STEP, first_serial, round_length, text_of_serial
from labelhouse.values import is_between, is_row

MOST_EVERY = 10 ** 6
MOST_LABEL = 10 ** 40


def is_hand(value):
    """Whether any value is a HAND."""
    if not is_row(value, 4) or not is_counter(value[0]) or not is_between(value[1], 0, size_of(value[0]) - 1):
        return False
    return is_between(value[2], -MOST_STEP, MOST_STEP) and is_between(value[3], 1, MOST_EVERY)


def need_panel(panel):
    """Refuse what is no PANEL."""
    if not is_row(panel, 2) or not is_hand(panel[0]) or not is_hand(panel[1]):
        raise OutOfPlace("a panel is a pair of hands")


def shown(panel, number):
    """The pair of TEXTS at a label."""
    need_panel(panel)
    if not is_between(number, 0, MOST_LABEL):
        raise OutOfPlace("this is no number of a label")
    one, other = panel
    return text_of_serial(one, number // one[3]), text_of_serial(other, number // other[3])


def turn_of(hand):
    """Behind how many labels a HAND stands as at first."""
    return hand[3] * round_length(hand)


def comes_back(panel):
    """The least number of labels from 1 on behind which both HANDS stand as at first."""
    need_panel(panel)
    return lcm(turn_of(panel[0]), turn_of(panel[1]))


def meet(panel, first, second):
    """The least label at which the first HAND shows the first TEXT and the second HAND the second one; or None."""
    need_panel(panel)
    one, other = panel
    if not is_text(one[0], first) or not is_text(other[0], second):
        raise OutOfPlace("these are no texts of the counters")
    serial, far_serial = first_serial(one, first), first_serial(other, second)
    if serial is None or far_serial is None:
        return None
    begin, far_begin = serial * one[3], far_serial * other[3]
    turn, far_turn = turn_of(one), turn_of(other)
    # In its turn the first TEXT is shown from begin on; how far it begins ahead of the second one is what counts.
    ahead = begin - far_begin + one[3] - 1
    turns = least_hit(turn, ahead, far_turn, min(one[3] + other[3] - 1, far_turn) - 1)
    if turns is None:
        return None
    begin = begin + turns * turn
    late = (begin - far_begin) % far_turn
    return begin if late < other[3] else begin + far_turn - late
