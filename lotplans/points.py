"""Points, the rows that plans meet, and rows that tell the least cost."""

from lotplans.checks import are_places, check_positive, is_place, is_tuple_of
from lotplans.errors import BadPoint, BadRow
from lotplans.intervals import least_plan, stage_costs
from lotplans.lots import kept_to_end
from lotplans.plans import start_marks
from lotplans.ratios import ONE, ZERO, is_less, is_ratio, minus, plus, ratio, times, total


def check_point(problem, point):
    """Raises BadPoint for a value that is not a point of the problem."""
    demands = problem[0]
    many = len(demands)
    if not is_tuple_of(point, 2) or not all([is_tuple_of(part, many) for part in point]):
        raise BadPoint(None)
    amounts, marks = point
    for index, value in enumerate(amounts + marks):
        if not is_ratio(value) or value[0] < 0 or index >= many and is_less(ONE, value):
            raise BadPoint(index)
    if total(amounts) != (sum(demands), 1) or marks[0] != ONE:
        raise BadPoint(2 * many)


def check_row(problem, row):
    """Raises BadRow for a value that is not a row of the problem."""
    if not is_tuple_of(row, 2) or not is_place(row[0], len(problem[0])) or not are_places(row[1], row[0] + 1):
        raise BadRow("not a period and an ascending tuple of periods up to it")


def point_cost(problem, point):
    """The ratio that a point costs."""
    check_positive(problem)
    check_point(problem, point)
    demands, setups, units, holdings = problem
    amounts, marks = point
    costs = []
    stock = ZERO
    for period, demand in enumerate(demands):
        stock = minus(plus(stock, amounts[period]), (demand, 1))
        costs.append(times(marks[period], setups[period]))
        costs.append(times(amounts[period], units[period]))
        costs.append(times(stock, holdings[period]))
    return total(costs)


def row_gap(problem, point, row):
    """The ratio by which a point is above what a row asks for, below 0 if the point breaks the row."""
    check_positive(problem)
    check_point(problem, point)
    check_row(problem, row)
    return gap_of(problem[0], point, row)


def gap_of(demands, point, row):
    """row_gap of values that are checked already."""
    last, places = row
    parts = [(-sum(demands[:last + 1]), 1)]
    for period in range(last + 1):
        parts.append(marked_demand(demands, point, period, last) if period in places else point[0][period])
    return total(parts)


def marked_demand(demands, point, period, last):
    """The mark of a period times the demands from there up to the last one."""
    return times(point[1][period], sum(demands[period:last + 1]))


def broken_row(problem, point):
    """The first row that a point breaks most in its period, None if it breaks none."""
    check_positive(problem)
    check_point(problem, point)
    demands = problem[0]
    for last in range(len(demands)):
        row = lowest_row(demands, point, last)
        if gap_of(demands, point, row)[0] < 0:
            return row
    return None


def lowest_row(demands, point, last):
    """The row of a period that takes, of mark and amount of each period, what is less."""
    return (last, tuple([period for period in range(last + 1)
                         if is_less(marked_demand(demands, point, period, last), point[0][period])]))


def by_rows(problem):
    """The least cost as a ratio, a point with it, and rows that keep all points from costing less."""
    check_positive(problem)
    plan = least_plan(problem)
    amounts = tuple([(amount, 1) for amount in plan])
    return ((stage_costs(problem)[-1], 1), (amounts, start_marks(plan)), tuple(asking_rows(problem)))


def asking_rows(problem):
    """The ascending list of rows that, each times a factor above 0, add up to the least cost.

    A unit costs in each period what making it and keeping it to the end of all costs. What the least cost rises by
    with each period, told likewise, falls from unit to unit. The row of a period is taken once for each step that
    lies between what its own units and those of the next period ask, with those periods that cost no more; its
    factor is the height of the step. Then no amount and no mark is asked for more than it costs.
    """
    costs = stage_costs(problem)
    spared = kept_to_end(problem)
    made = [unit + saved for unit, saved in zip(problem[2], spared)]
    asked = []
    for period, demand in enumerate(problem[0]):
        asked.append(ratio(costs[period + 1] - costs[period] + demand * spared[period], demand))
    asked.append((min(made), 1))
    rows = []
    for period in range(len(made)):
        rows.extend(step_rows(made, period, asked[period + 1], asked[period]))
    return sorted(rows)


def step_rows(made, period, low, high):
    """The rows of a period for the steps from low up to high, which end at what making costs."""
    within = [(each, 1) for each in made[:period + 1] if is_less(low, (each, 1)) and is_less((each, 1), high)]
    steps = [low] + within if is_less(low, high) else []
    rows = []
    for step in steps:
        row = (period, tuple([start for start in range(period + 1) if not is_less(step, (made[start], 1))]))
        if row not in rows:
            rows.append(row)
    return rows
