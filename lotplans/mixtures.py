"""Points as mixtures of interval plans."""

from lotplans.checks import are_amounts, check_positive, is_tuple_of
from lotplans.errors import BadPlan, TooMany
from lotplans.plans import check_plan, has_intervals, interval_plan
from lotplans.points import broken_row, check_point
from lotplans.ratios import ONE, ZERO, is_less, is_ratio, minus, times, total
from lotplans.spreads import spread

MOST_MIXED = 6


def check_few(problem):
    """Raises TooMany if there are more than 6 periods."""
    if len(problem[0]) > MOST_MIXED:
        raise TooMany(MOST_MIXED)


def corners(problem):
    """The ascending list of all pairs of an interval plan and marks that are 1 at its starts."""
    check_positive(problem)
    check_few(problem)
    demands = problem[0]
    pairs = [((0,), (1,))]
    for period in range(1, len(demands)):
        pairs = [longer for periods, marks in pairs for longer in longer_pairs(periods, marks, period)]
    return sorted([(interval_plan(demands, periods), marks) for periods, marks in pairs])


def longer_pairs(periods, marks, period):
    """What starts and marks may go on to with one more period: no mark, a mark alone, a start with its mark."""
    return [(periods, marks + (0,)), (periods, marks + (1,)), (periods + (period,), marks + (1,))]


def mixture(problem, point):
    """A mixture of a point, None if there is none."""
    check_positive(problem)
    check_point(problem, point)
    check_few(problem)
    if broken_row(problem, point) is not None:
        return None
    demands = problem[0]
    table = spread(demands, point)
    pieces = []
    for weight, periods in weighted_starts(lot_weights(table)):
        marks = tuple([1 if period in periods else 0 for period in range(len(demands))])
        pieces.append((weight, interval_plan(demands, periods), marks))
    for period, mark in enumerate(point[1]):
        pieces = marked_pieces(pieces, period, minus(mark, table[period][period]))
    return tuple(sorted(pieces, key=lambda piece: piece[1:]))


def lot_weights(table):
    """The table whose item [start][end] is the weight of the lot from start up to, but without, end.

    The parts that a start has of the demands fall by this weight behind the lot.
    """
    many = len(table)
    weights = [[ZERO] * (many + 1) for _ in table]
    for start, row in enumerate(table):
        parts = row + [ZERO]
        for end in range(start + 1, many + 1):
            weights[start][end] = minus(parts[end - 1], parts[end])
    return weights


def weighted_starts(weights):
    """The list of the pairs of a weight and the starts of lots, one behind another, that add up to the weights."""
    rest = [list(row) for row in weights]
    found = []
    lots = first_lots(rest)
    while lots:
        weight = ONE
        for start, end in lots:
            if is_less(rest[start][end], weight):
                weight = rest[start][end]
        for start, end in lots:
            rest[start][end] = minus(rest[start][end], weight)
        found.append((weight, tuple([start for start, end in lots])))
        lots = first_lots(rest)
    return found


def first_lots(weights):
    """The shortest lots, one behind another, that have weights above 0; none if there are none."""
    many = len(weights)
    lots = []
    start = 0
    while start < many:
        ends = [end for end in range(start + 1, many + 1) if weights[start][end] != ZERO]
        if not ends:
            return []
        lots.append((start, ends[0]))
        start = ends[0]
    return lots


def marked_pieces(pieces, period, weight):
    """The pieces, with a mark of the period in so much weight of those that have none there."""
    found = []
    for share, plan, marks in pieces:
        if marks[period] == 1 or weight == ZERO:
            found.append((share, plan, marks))
        else:
            more = marks[:period] + (1,) + marks[period + 1:]
            marked = weight if is_less(weight, share) else share
            found.append((marked, plan, more))
            if is_less(marked, share):
                found.append((minus(share, marked), plan, marks))
            weight = minus(weight, marked)
    return found


def shows_mixture(problem, point, value):
    """Whether a value is a mixture of a point."""
    check_positive(problem)
    check_point(problem, point)
    check_few(problem)
    if not isinstance(value, tuple) or not all([is_piece(problem, piece) for piece in value]):
        return False
    if not all([value[k - 1][1:] < value[k][1:] for k in range(1, len(value))]):
        return False
    return total([piece[0] for piece in value]) == ONE and adds_up(value, 1, point[0]) and adds_up(value, 2, point[1])


def is_piece(problem, value):
    """Whether a value is a triple of a weight above 0 and a corner."""
    return is_tuple_of(value, 3) and is_ratio(value[0]) and value[0][0] > 0 and is_corner(problem, value[1], value[2])


def is_corner(problem, plan, marks):
    """Whether values are an interval plan and marks that are 1 at its starts."""
    try:
        check_plan(problem, plan)
    except BadPlan:
        return False
    if not has_intervals(problem, plan) or not are_amounts(marks, len(plan)):
        return False
    return all([mark == 1 or mark == 0 and amount == 0 for mark, amount in zip(marks, plan)])


def adds_up(pieces, part, goal):
    """Whether the weighted sums of a part of the pieces are the ratios of the goal."""
    sums = [total([times(piece[0], piece[part][k]) for piece in pieces]) for k in range(len(goal))]
    return tuple(sums) == goal
