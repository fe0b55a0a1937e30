"""Ratios: pairs (numerator, denominator) of integers in lowest terms, the denominator positive."""

from math import gcd

from lotplans.checks import is_integer, is_tuple_of

ZERO = (0, 1)
ONE = (1, 1)


def is_ratio(value):
    """Whether a value is a ratio."""
    if not is_tuple_of(value, 2) or not all([is_integer(thing) for thing in value]):
        return False
    return value[1] > 0 and gcd(value[0], value[1]) == 1


def ratio(top, bottom):
    """The ratio of an integer to one above 0."""
    shared = gcd(top, bottom)
    return (top // shared, bottom // shared)


def plus(one, other):
    """The sum of two ratios."""
    return ratio(one[0] * other[1] + other[0] * one[1], one[1] * other[1])


def minus(one, other):
    """The first ratio less the second one."""
    return ratio(one[0] * other[1] - other[0] * one[1], one[1] * other[1])


def times(one, factor):
    """A ratio times an integer."""
    return ratio(one[0] * factor, one[1])


def multiplied(one, other):
    """The product of two ratios."""
    return ratio(one[0] * other[0], one[1] * other[1])


def divided(one, other):
    """The first ratio divided by the second one, which is above 0."""
    return ratio(one[0] * other[1], one[1] * other[0])


def total(values):
    """The sum of a list or tuple of ratios."""
    result = ZERO
    for value in values:
        result = plus(result, value)
    return result


def is_less(one, other):
    """Whether the first ratio is less than the second one."""
    return one[0] * other[1] < other[0] * one[1]
