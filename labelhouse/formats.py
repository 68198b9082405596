"""Formats that recall others: how long they are, and where their letters and patterns stand.

A row of totals has a number for each FORMAT of a STORE: how many of its labels have letters that count.
A reading of a pattern has a pair for each number of its first letters, fewer than all, with which a reader begins:
with how many he ends, and how often he has met all.
"""

from labelhouse.errors import BadStore, OutOfPlace
from labelhouse.values import is_between, is_row, is_whole

ALPHABET = "abcdefghijklmnopqrstuvwxyz"
MOST_FORMATS = 30
MOST_ITEMS = 12
MOST_TIMES = 10 ** 9
LONGEST = 10 ** 30
MOST_SIGNS = 8
MOST_LETTERS = 1000


def is_letters(value, most):
    """Whether a value is a string of 1 to so many letters."""
    return isinstance(value, str) and 1 <= len(value) <= most and all([sign in ALPHABET for sign in value])


def is_item(value, number):
    """Whether a value is an item of the FORMAT with a number."""
    if is_letters(value, 1):
        return True
    return is_row(value, 2) and is_between(value[0], 0, number - 1) and is_between(value[1], 1, MOST_TIMES)


def total_of(item, letters, totals):
    """How many labels of an item have letters that count, totals telling this of the FORMATS ahead."""
    if isinstance(item, str):
        return 1 if item in letters else 0
    return totals[item[0]] * item[1]


def totals_of(store, letters):
    """The row of totals of a STORE that has been looked at, these letters counting."""
    totals = []
    for parts in store:
        totals.append(sum([total_of(item, letters, totals) for item in parts]))
    return totals


def lengths_of(thing):
    """The row of the LENGTHS of a STORE; refused as need_store does."""
    if not isinstance(thing, tuple) or not 1 <= len(thing) <= MOST_FORMATS:
        raise BadStore(None, None)
    lengths = []
    for number, parts in enumerate(thing):
        if not isinstance(parts, tuple) or not 1 <= len(parts) <= MOST_ITEMS:
            raise BadStore(number, None)
        for at, item in enumerate(parts):
            if not is_item(item, number):
                raise BadStore(number, at)
        lengths.append(sum([total_of(item, ALPHABET, lengths) for item in parts]))
        if lengths[-1] > LONGEST:
            raise BadStore(number, None)
    return lengths


def need_store(thing):
    """Give a STORE back; refuse anything else with the first wrong FORMAT and its first wrong item, or None."""
    lengths_of(thing)
    return thing


def lengths_to(store, number):
    """The LENGTHS of a STORE; refused of what is none, then what is no number of a FORMAT."""
    lengths = lengths_of(store)
    if not is_between(number, 0, len(store) - 1):
        raise OutOfPlace("this is no number of a format")
    return lengths


def need_letter(letter):
    """Refuse what is no letter."""
    if not is_letters(letter, 1):
        raise OutOfPlace("this is no letter")


def need_pattern(pattern):
    """Refuse what is no PATTERN."""
    if not is_letters(pattern, MOST_SIGNS):
        raise OutOfPlace("this is no pattern")


def length_of(store, number):
    """The LENGTH of a FORMAT."""
    return lengths_to(store, number)[number]


def sought(store, number, place, rule, far_rule):
    """The label of a FORMAT that counts, so many that count being ahead of it.

    It is a pair: its letter, and how many labels ahead of it count by another rule. A rule is a pair of the letters
    that count, and the row of totals for these.
    """
    letters, totals = rule
    far_letters, far_totals = far_rule
    ahead = 0
    while True:
        for item in store[number]:
            total = total_of(item, letters, totals)
            if place < total:
                break
            place = place - total
            ahead = ahead + total_of(item, far_letters, far_totals)
        if isinstance(item, str):
            return item, ahead
        number = item[0]
        often, place = divmod(place, totals[number])
        ahead = ahead + often * far_totals[number]


def letter_at(store, number, label):
    """The letter of a label of a FORMAT."""
    lengths = lengths_to(store, number)
    if not is_between(label, 0, lengths[number] - 1):
        raise OutOfPlace("this is no label of the format")
    rule = (ALPHABET, lengths)
    return sought(store, number, label, rule, rule)[0]


def many_before(store, number, letter, label):
    """How many labels ahead of a label have a letter."""
    lengths = lengths_to(store, number)
    need_letter(letter)
    if not is_between(label, 0, lengths[number]):
        raise OutOfPlace("this is no label of the format, nor its end")
    totals = totals_of(store, letter)
    if label == lengths[number]:
        return totals[number]
    return sought(store, number, label, (ALPHABET, lengths), (letter, totals))[1]


def label_with(store, number, letter, count):
    """The label that has a letter so many times behind the first one that has it, or None."""
    lengths = lengths_to(store, number)
    need_letter(letter)
    if not is_whole(count) or count < 0:
        raise OutOfPlace("this is no integer from 0 on")
    totals = totals_of(store, letter)
    if count >= totals[number]:
        return None
    return sought(store, number, count, (letter, totals), (ALPHABET, lengths))[1]


def letters(store, number, first, many):
    """The string of the letters of so many labels of a FORMAT from one on."""
    lengths = lengths_to(store, number)
    if not is_between(first, 0, lengths[number]):
        raise OutOfPlace("this is no label of the format, nor its end")
    if not is_between(many, 0, min(MOST_LETTERS, lengths[number] - first)):
        raise OutOfPlace("so many labels are too many, or some of them are none")
    rule = (ALPHABET, lengths)
    return "".join([sought(store, number, first + at, rule, rule)[0] for at in range(many)])


def held_behind(pattern, row):
    """How many of the first letters of a PATTERN, fewer than all, a row of letters ends with at most."""
    for many in range(min(len(pattern) - 1, len(row)), 0, -1):
        if row.endswith(pattern[:many]):
            return many
    return 0


def reading_of_letter(pattern, letter):
    """The reading of one letter."""
    rows = [pattern[:held] + letter for held in range(len(pattern))]
    return [(held_behind(pattern, row), 1 if row == pattern else 0) for row in rows]


def joined_reading(one, other):
    """The reading of two parts, one behind the other."""
    return [(other[held][0], met + other[held][1]) for held, met in one]


def repeated_reading(reading, times):
    """The reading of a part that comes so many times."""
    whole = [(held, 0) for held in range(len(reading))]
    while times > 0:
        if times % 2 == 1:
            whole = joined_reading(whole, reading)
        reading = joined_reading(reading, reading)
        times = times // 2
    return whole


def reading_of_item(pattern, item, readings):
    """The reading of an item, readings having those of the FORMATS ahead."""
    if isinstance(item, str):
        return reading_of_letter(pattern, item)
    return repeated_reading(readings[item[0]], item[1])


def readings_of(store, pattern):
    """The list of the readings of all FORMATS."""
    readings = []
    for parts in store:
        reading = [(held, 0) for held in range(len(pattern))]
        for item in parts:
            reading = joined_reading(reading, reading_of_item(pattern, item, readings))
        readings.append(reading)
    return readings


def many_of(store, number, pattern):
    """How often a PATTERN STANDS in a FORMAT."""
    lengths_to(store, number)
    need_pattern(pattern)
    return readings_of(store, pattern)[number][0][1]


def first_of(store, number, pattern):
    """The least label of a FORMAT at which a PATTERN STANDS, or None."""
    lengths = lengths_to(store, number)
    need_pattern(pattern)
    readings = readings_of(store, pattern)
    if readings[number][0][1] == 0:
        return None
    held, label = 0, 0
    while True:
        for item in store[number]:
            reading = reading_of_item(pattern, item, readings)
            if reading[held][1] > 0:
                break
            held = reading[held][0]
            label = label + total_of(item, ALPHABET, lengths)
        if isinstance(item, str):
            return label + 1 - len(pattern)
        number = item[0]
        # It is met in one of so few rounds: as many as there are numbers of letters with which one can begin.
        while readings[number][held][1] == 0:
            held = readings[number][held][0]
            label = label + lengths[number]
