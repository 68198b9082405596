"""Questions that may be asked of any value at all."""


def is_whole(value):
    """Whether a value is an integer; True and False are none."""
    return isinstance(value, int) and not isinstance(value, bool)


def is_between(value, low, high):
    """Whether a value is an integer from low to high."""
    return is_whole(value) and low <= value <= high


def is_row(value, many):
    """Whether a value is a tuple of so many things."""
    return isinstance(value, tuple) and len(value) == many


def is_one_of(value, words):
    """Whether a value is a string, and one of these words."""
    return isinstance(value, str) and value in words
