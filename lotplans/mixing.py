"""Whole lots: mixes, the rows that whole ones meet, and corners."""

from lotplans.checks import are_places, is_integer, is_tuple_of
from lotplans.errors import BadBounds, BadMix, BadRow
from lotplans.groups import groups_of
from lotplans.ratios import (
    ONE, ZERO, are_weights, greatest, is_less, is_ratio, is_weight, minus, multiplied, plus, rising_order, times, total,
)

MOST_BOUNDS = 5
GREATEST_BOUND = (999, 1)


def check_bounds(bounds):
    """Raises BadBounds for a value that is not a tuple of 1 to 5 ratios from 0 to 999."""
    if not isinstance(bounds, tuple) or not 1 <= len(bounds) <= MOST_BOUNDS:
        raise BadBounds("not a tuple of 1 to 5 ratios")
    for bound in bounds:
        if not is_weight(bound) or is_less(GREATEST_BOUND, bound):
            raise BadBounds("not a ratio from 0 to 999")


def check_mix(bounds, point):
    """Raises BadMix for a value that is not a mix of the bounds."""
    if not is_tuple_of(point, 2) or not is_weight(point[0]) or not is_tuple_of(point[1], len(bounds)):
        raise BadMix("not a ratio of at least 0 and a number for each bound")
    if not all([is_ratio(number) for number in point[1]]):
        raise BadMix("a number is not a ratio")


def check_row(bounds, row):
    """Raises BadRow for a value that is not a pair of some places of bounds and a boolean."""
    if not is_tuple_of(row, 2) or not are_places(row[0], len(bounds)) or row[0] == ():
        raise BadRow("not an ascending tuple of places and a boolean")
    if not isinstance(row[1], bool):
        raise BadRow("not a boolean")


def ceiling(value):
    """The least integer that is at least a ratio."""
    return -(-value[0] // value[1])


def upper_part(bound):
    """The part of a bound: what it is above the greatest integer below it, so 1 for an integer."""
    return minus(bound, (ceiling(bound) - 1, 1))


def lacking(bounds, numbers, place):
    """The ceiling of a bound less the number at its place."""
    return minus((ceiling(bounds[place]), 1), numbers[place])


def mixing_gap(bounds, point, row):
    """The rest of a mix less what a row asks for, below 0 if the mix breaks the row."""
    check_bounds(bounds)
    check_mix(bounds, point)
    check_row(bounds, row)
    return gap_of(bounds, point, row)


def gap_of(bounds, point, row):
    """mixing_gap of values that are checked already."""
    rest, numbers = point
    places, goes_round = row
    order = [places[k] for k in rising_order([upper_part(bounds[place]) for place in places])]
    asked = []
    ahead = ZERO
    for place in order:
        part = upper_part(bounds[place])
        asked.append(multiplied(minus(part, ahead), lacking(bounds, numbers, place)))
        ahead = part
    if goes_round:
        asked.append(multiplied(minus(ONE, ahead), minus(lacking(bounds, numbers, order[0]), ONE)))
    return minus(rest, total(asked))


def broken_mix(bounds, point):
    """The least row that a mix breaks, None if it breaks none."""
    check_bounds(bounds)
    check_mix(bounds, point)
    for places in sorted(groups_of(len(bounds)))[1:]:
        for goes_round in (False, True):
            if gap_of(bounds, point, (places, goes_round))[0] < 0:
                return (places, goes_round)
    return None


def mix_corners(bounds):
    """The ascending list of the pairs of a rest and the least numbers that are whole with it."""
    check_bounds(bounds)
    return sorted([(rest, least_numbers(bounds, rest)) for rest in corner_rests(bounds)])


def corner_rests(bounds):
    """The list of 0 and of the parts of bounds that are less than 1, each once, the least one first."""
    parts = [ZERO] + [upper_part(bound) for bound in bounds]
    rising = [parts[place] for place in rising_order(parts)]
    return [part for place, part in enumerate(rising) if part != ONE and part not in rising[:place]]


def least_numbers(bounds, rest):
    """The tuple of the least integers that are with a rest at least the bounds."""
    return tuple([ceiling(minus(bound, rest)) for bound in bounds])


def mix(bounds, point):
    """Weighted corners, ups and a shift that lead to a mix, None if there are none.

    With a shift, each bound asks that rests of at least its part have some weight together. The least weights that
    will do have the least rest on average, and with the least shift that can be, this is least with the shift added;
    what the rest of the mix is above that is shifted, too.
    """
    check_bounds(bounds)
    check_mix(bounds, point)
    rest, numbers = point
    least = least_shift(bounds, numbers)
    rests = corner_rests(bounds)
    tails = [ONE] + [least_tail(bounds, numbers, least, level) for level in rests[1:]] + [ZERO]
    pieces = []
    for place, level in enumerate(rests):
        if tails[place] != tails[place + 1]:
            pieces.append((minus(tails[place], tails[place + 1]), level, least_numbers(bounds, level)))
    shift = minus(rest, total([multiplied(weight, level) for weight, level, lots in pieces]))
    if is_less(shift, least):
        return None
    ups = [minus(plus(number, shift), mixed_number(pieces, place)) for place, number in enumerate(numbers)]
    return (tuple(pieces), tuple(ups), shift)


def least_shift(bounds, numbers):
    """The least shift of at least 0 with which no bound asks for more weight than 1 at rests of at least its part.

    No corner has a rest of 1, so a bound whose part is 1 may ask for none.
    """
    shifts = [ZERO]
    for place, bound in enumerate(bounds):
        lack = lacking(bounds, numbers, place)
        shifts.append(lack if upper_part(bound) == ONE else minus(lack, ONE))
    return greatest(shifts)


def least_tail(bounds, numbers, shift, level):
    """The least weight that the rests from a level on must have together."""
    asked = [ZERO]
    for place, bound in enumerate(bounds):
        if not is_less(upper_part(bound), level):
            asked.append(minus(lacking(bounds, numbers, place), shift))
    return greatest(asked)


def mixed_number(pieces, place):
    """The weighted sum of the numbers of pieces at a place."""
    return total([times(weight, lots[place]) for weight, level, lots in pieces])


def shows_mix(bounds, point, value):
    """Whether a value is weighted corners, ups and a shift that lead to a mix."""
    check_bounds(bounds)
    check_mix(bounds, point)
    if not is_tuple_of(value, 3) or not isinstance(value[0], tuple):
        return False
    pieces, ups, shift = value
    corners = mix_corners(bounds)
    if not are_weights(ups, len(bounds)) or not is_weight(shift):
        return False
    if not all([is_piece(corners, len(bounds), piece) for piece in pieces]):
        return False
    if total([weight for weight, level, lots in pieces]) != ONE:
        return False
    return mixed_point(pieces, ups, shift) == point


def is_piece(corners, many, value):
    """Whether a value is a triple of a ratio above 0 and one of the corners of so many bounds."""
    if not is_tuple_of(value, 3) or not is_weight(value[0]) or value[0] == ZERO or not is_ratio(value[1]):
        return False
    if not is_tuple_of(value[2], many) or not all([is_integer(number) for number in value[2]]):
        return False
    return value[1:] in corners


def mixed_point(pieces, ups, shift):
    """The mix that weighted corners, ups and a shift lead to."""
    rest = plus(total([multiplied(weight, level) for weight, level, lots in pieces]), shift)
    return (rest, tuple([minus(plus(mixed_number(pieces, place), up), shift) for place, up in enumerate(ups)]))
