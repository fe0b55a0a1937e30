"""Points told by which amount is for which demand."""

from lotplans.checks import check_positive, is_tuple_of
from lotplans.points import broken_row, check_point
from lotplans.ratios import ZERO, are_weights, is_less, times, total
from lotplans.spreads import spread


def allocation(problem, point):
    """How much of each amount of a point is for each demand, None if some row is broken."""
    if broken_row(problem, point) is not None:
        return None
    demands = problem[0]
    rows = []
    for parts in spread(demands, point):
        rows.append(tuple([times(part, demand) for part, demand in zip(parts, demands)]))
    return tuple(rows)


def shows_allocation(problem, point, value):
    """Whether a value is an allocation of a point."""
    check_positive(problem)
    check_point(problem, point)
    demands = problem[0]
    amounts, marks = point
    many = len(demands)
    if not is_tuple_of(value, many) or not all([are_weights(row, many) for row in value]):
        return False
    if not all([keeps_mark(demands, marks[start], start, row) for start, row in enumerate(value)]):
        return False
    met = [total([row[goal] for row in value]) for goal in range(many)]
    return [total(row) for row in value] == list(amounts) and met == [(demand, 1) for demand in demands]


def keeps_mark(demands, mark, start, row):
    """Whether what a start makes is for no earlier demand, and for none more than its mark times the demand."""
    if any([part != ZERO for part in row[:start]]):
        return False
    return not any([is_less(times(mark, demand), part) for demand, part in zip(demands[start:], row[start:])])
