"""Fractions: tuples (above, below) without a common divisor but 1."""

from math import gcd

from treerounds.webs.parts import is_whole


def is_fraction(told):
    """Whether something is a fraction."""
    if not isinstance(told, tuple) or len(told) != 2:
        return False
    above, below = told
    return is_whole(above) and is_whole(below) and below >= 1 and gcd(above, below) == 1


def in_least_terms(above, below):
    """The fraction of two whole numbers, the second one 1 or more."""
    common = gcd(above, below)
    return above // common, below // common
