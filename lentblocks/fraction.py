"""FRACTIONS: pairs (top, bottom) of numbers."""

from math import gcd


def lowest(top, bottom):
    """This FRACTION in lowest terms."""
    common = gcd(top, bottom)
    return (top // common, bottom // common)


def at_most(one, other):
    """Whether one is not greater than other, both from 0 on."""
    return one[0] * other[1] <= other[0] * one[1]
