"""Ratios: pairs (numerator, denominator) of integers in lowest terms, the denominator positive."""

from math import gcd, lcm

from lotplans.checks import is_integer, is_tuple_of

ZERO = (0, 1)
ONE = (1, 1)


def is_ratio(value):
    """Whether a value is a ratio."""
    if not is_tuple_of(value, 2) or not all([is_integer(thing) for thing in value]):
        return False
    return value[1] > 0 and gcd(value[0], value[1]) == 1


def is_weight(value):
    """Whether a value is a ratio of at least 0."""
    return is_ratio(value) and value[0] >= 0


def are_weights(value, many):
    """Whether a value is a tuple of so many ratios of at least 0."""
    return is_tuple_of(value, many) and all([is_weight(thing) for thing in value])


def ratio(top, bottom):
    """The ratio of an integer to one above 0."""
    shared = gcd(top, bottom)
    return (top // shared, bottom // shared)


def plus(one, other):
    """The sum of two ratios."""
    return ratio(one[0] * other[1] + other[0] * one[1], one[1] * other[1])


def minus(one, other):
    """The first ratio less the second one."""
    return ratio(one[0] * other[1] - other[0] * one[1], one[1] * other[1])


def times(one, factor):
    """A ratio times an integer."""
    return ratio(one[0] * factor, one[1])


def multiplied(one, other):
    """The product of two ratios."""
    return ratio(one[0] * other[0], one[1] * other[1])


def divided(one, other):
    """The first ratio divided by the second one, which is above 0."""
    return ratio(one[0] * other[1], one[1] * other[0])


def total(values):
    """The sum of a list or tuple of ratios."""
    result = ZERO
    for value in values:
        result = plus(result, value)
    return result


def is_less(one, other):
    """Whether the first ratio is less than the second one."""
    return one[0] * other[1] < other[0] * one[1]


def greatest(values):
    """The greatest one of a list of ratios."""
    best = values[0]
    for value in values:
        if is_less(best, value):
            best = value
    return best


def rising_order(values):
    """The list of the places of the ratios of a list or tuple, by rising ratios, and then by place."""
    common = 1
    for value in values:
        common = lcm(common, value[1])
    return sorted(range(len(values)), key=lambda place: values[place][0] * (common // values[place][1]))
