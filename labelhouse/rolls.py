"""Rolls: labels of many lengths that are printed in their order onto as few rolls as can be."""

from labelhouse.errors import BadLengths, BadPaper, OutOfPlace
from labelhouse.values import is_between, is_row, is_whole

MOST_LABELS = 200
GREATEST = 10 ** 9


def need_lengths(thing):
    """Give LENGTHS back; refuse anything else with the number of the first wrong one, or None."""
    if not isinstance(thing, tuple) or not 1 <= len(thing) <= MOST_LABELS:
        raise BadLengths(None)
    for number, length in enumerate(thing):
        if not is_between(length, 1, GREATEST):
            raise BadLengths(number)
    return thing


def need_length(lengths, length):
    """Refuse what are no LENGTHS, then what is no LENGTH of a roll for them."""
    need_lengths(lengths)
    if not is_between(length, max(lengths), GREATEST):
        raise OutOfPlace("this is no length of a roll for these labels")


def stops_of(lengths, length):
    """The list of the numbers of the labels with which the rolls begin, each as full as can be."""
    stops = [0]
    used = 0
    for number, long in enumerate(lengths):
        if used + long > length:
            stops.append(number)
            used = 0
        used += long
    return stops


def split_at(lengths, stops):
    """The SPLIT in which rolls begin with these labels."""
    ends = stops[1:] + [len(lengths)]
    return tuple([end - stop for stop, end in zip(stops, ends)])


def fewest_rolls(lengths, length):
    """FEWEST: the least number of rolls."""
    need_length(lengths, length)
    return len(stops_of(lengths, length))


def split(lengths, length):
    """A SPLIT into the least number of rolls."""
    need_length(lengths, length)
    return split_at(lengths, stops_of(lengths, length))


def rolls_paper(lengths, length):
    """A paper of FEWEST."""
    need_length(lengths, length)
    stops = stops_of(lengths, length)
    return split_at(lengths, stops), tuple(stops)


def is_split(lengths, length, value):
    """Whether a value is a SPLIT."""
    if not isinstance(value, tuple) or not all([is_between(many, 1, len(lengths)) for many in value]):
        return False
    begin = 0
    for many in value:
        if sum(lengths[begin:begin + many]) > length:
            return False
        begin += many
    return begin == len(lengths)


def are_stops(lengths, length, many, value):
    """Whether a value is a tuple of so many STOPS."""
    if not is_row(value, many) or not all([is_between(stop, 0, len(lengths) - 1) for stop in value]):
        return False
    pairs = list(zip(value, value[1:]))
    return value[0] == 0 and all([stop < end and sum(lengths[stop:end + 1]) > length for stop, end in pairs])


def check_rolls(lengths, length, paper):
    """FEWEST, as a paper shows it."""
    need_length(lengths, length)
    if not is_row(paper, 2):
        raise BadPaper("form")
    parts, stops = paper
    if not is_split(lengths, length, parts):
        raise BadPaper("split")
    if not are_stops(lengths, length, len(parts), stops):
        raise BadPaper("stops")
    return len(parts)


def least_length(lengths, many):
    """The least LENGTH, however great, with which so many rolls are enough."""
    need_lengths(lengths)
    if not is_whole(many) or many < 1:
        raise OutOfPlace("this is no number of rolls")
    low, high = max(lengths), sum(lengths)
    while low < high:
        middle = (low + high) // 2
        if len(stops_of(lengths, middle)) <= many:
            high = middle
        else:
            low = middle + 1
    return low
