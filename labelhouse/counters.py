"""Counters: dials that go on like those of a meter, and the texts that they show."""

from labelhouse.errors import BadCounter, OutOfPlace
from labelhouse.values import is_between

MOST_DIALS = 12
PERCENT = 37


def is_dial(value):
    """Whether any value is a DIAL."""
    if not isinstance(value, str) or not 2 <= len(value) <= 36 or len(set(value)) < len(value):
        return False
    return all(["!" <= sign <= "~" and ord(sign) != PERCENT for sign in value])


def is_counter(value):
    """Whether any value is a COUNTER."""
    if not isinstance(value, tuple) or not 1 <= len(value) <= MOST_DIALS:
        return False
    return all([is_dial(dial) for dial in value])


def need_counter(thing):
    """Give a COUNTER back; refuse anything else with the number of the first thing that is no DIAL, or None."""
    if not isinstance(thing, tuple) or not 1 <= len(thing) <= MOST_DIALS:
        raise BadCounter(None)
    for number, dial in enumerate(thing):
        if not is_dial(dial):
            raise BadCounter(number)
    return thing


def size_of(counter):
    """The SIZE of a COUNTER that has been looked at."""
    product = 1
    for dial in counter:
        product = product * len(dial)
    return product


def text_of(counter, number):
    """The TEXT with a number, of what has been looked at."""
    signs = []
    for dial in reversed(list(counter)):
        number, worth = divmod(number, len(dial))
        signs.append(dial[worth])
    return "".join(signs[::-1])


def is_text(counter, value):
    """Whether any value is a TEXT of a COUNTER that has been looked at."""
    if not isinstance(value, str) or len(value) != len(counter):
        return False
    return all([sign in dial for sign, dial in zip(value, counter)])


def number_in(counter, text):
    """The number of a TEXT, of what has been looked at."""
    number = 0
    for sign, dial in zip(text, counter):
        number = number * len(dial) + dial.index(sign)
    return number


def size(counter):
    """The SIZE of a COUNTER: how many TEXTS it has."""
    need_counter(counter)
    return size_of(counter)


def text_at(counter, number):
    """The TEXT with a number."""
    need_counter(counter)
    if not is_between(number, 0, size_of(counter) - 1):
        raise OutOfPlace("this is no number of a text")
    return text_of(counter, number)


def number_of(counter, text):
    """The number of a TEXT."""
    need_counter(counter)
    if not is_text(counter, text):
        raise OutOfPlace("this is no text of the counter")
    return number_in(counter, text)
