"""Multiples and their rests."""

from math import gcd


def inverse(value, modulus):
    """By how much a value is multiplied to have the rest 1; it has no divisor but 1 in common with the modulus."""
    left, right = value % modulus, modulus
    held, other = 1, 0
    while right != 0:
        often = left // right
        left, right = right, left - often * right
        held, other = other, held - often * other
    return held % modulus


def least_factor(step, rest, modulus):
    """The least number from 0 on by which a step is multiplied to have this rest by a modulus; or None."""
    common = gcd(step, modulus)
    if rest % common != 0:
        return None
    period = modulus // common
    return rest // common * inverse(step // common, period) % period


def period_of(step, modulus):
    """Behind how many steps the same rest by a modulus comes again for the first time."""
    return modulus // gcd(step, modulus)
