"""Last starts, and what holds at steady costs: first amounts that later demands leave as they are, and stock rows."""

from lotplans.checks import MOST_PERIODS, check_problem
from lotplans.errors import NotSteady, TooMany
from lotplans.intervals import least_plan, stage_costs
from lotplans.lots import lot_table, part_of
from lotplans.plans import start_marks, stock_levels


def last_starts(problem):
    """For each number of first periods, the last starts of the interval plans with the least cost for these alone."""
    costs = stage_costs(problem)
    table = lot_table(problem)
    return tuple([stage_starts(problem[0], costs, table, end) for end in range(1, len(costs))])


def stage_starts(demands, costs, table, end):
    """The ascending tuple of the periods whose lots up to end are the last ones of least plans and make something."""
    return tuple([start for start in range(end)
                  if sum(demands[start:end]) > 0 and costs[start] + table[start][end] == costs[end]])


def is_steady(problem):
    """Whether in no period making and keeping a unit costs less than making it in the next one."""
    check_problem(problem)
    return first_unsteady(problem) is None


def first_unsteady(problem):
    """The first period in which making and keeping a unit costs less than making it in the next one, or None."""
    units, holdings = problem[2], problem[3]
    for period in range(len(units) - 1):
        if units[period] + holdings[period] < units[period + 1]:
            return period
    return None


def check_steady(problem):
    """Raises BadProblem for a value that is not a problem, NotSteady for one that is not steady."""
    check_problem(problem)
    period = first_unsteady(problem)
    if period is not None:
        raise NotSteady(period)


def firm(problem):
    """The first amounts that some least plan begins with, however the problem goes on at steady costs."""
    check_steady(problem)
    last = max(last_starts(problem)[-1], default=0)
    common = least_plan(problem)[:last]
    for many in range(max(last, 1), len(problem[0])):
        common = common_row(common, least_plan(part_of(problem, 0, many)))
    return common


def common_row(one, other):
    """The longest tuple that both tuples begin with."""
    many = 0
    while many < min(len(one), len(other)) and one[many] == other[many]:
        many += 1
    return one[:many]


def joined(one, other):
    """The problem of the periods of one problem and then those of another one."""
    check_problem(one)
    check_problem(other)
    if len(one[0]) + len(other[0]) > MOST_PERIODS:
        raise TooMany(MOST_PERIODS)
    return tuple([first + second for first, second in zip(one, other)])


def by_stock_rows(problem):
    """The least cost, and stocks and marks with it that keep all stock rows.

    At steady costs the rows keep all stocks and marks from costing less than the least plan, so its own ones will do.
    """
    check_steady(problem)
    plan = least_plan(problem)
    levels = tuple([(level, 1) for level in stock_levels(problem[0], plan)])
    return ((stage_costs(problem)[-1], 1), levels, start_marks(plan))
