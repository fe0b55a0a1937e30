"""How far a setup may change until other plans cost less.

If the setup of a period is all that changes, the least cost is the lesser one of two: that with the setup at 0, to
which the setup is added, and that of the plans that make nothing in the period, which stays as it is.
"""

from lotplans.checks import check_period, check_problem
from lotplans.intervals import rest_list, stage_costs
from lotplans.lots import lot_row, lot_table
from lotplans.plans import check_plan
from lotplans.problems import cost


def setup_range(problem, plan, period):
    """The least and the greatest setup of a period with which a plan has the least cost, None if there are none."""
    check_problem(problem)
    check_plan(problem, plan)
    check_period(problem, period)
    free = least_with(problem, period, 0)
    without = least_without(problem, period)
    paid = cost(problem, plan)
    if plan[period] == 0:
        return (without - free, None) if paid == without else None
    if paid - problem[1][period] != free:
        return None
    return (0, None if without is None else without - free)


def worth(problem, period):
    """The greatest setup of a period with which some least interval plan makes something there.

    None if there is no greatest one, -1 if there is none at all.
    """
    check_problem(problem)
    check_period(problem, period)
    within = least_within(problem, period)
    without = least_without(problem, period)
    if within is None:
        return -1
    return None if without is None else max(without - within, -1)


def least_with(problem, period, setup):
    """The least cost if the setup of a period is as told."""
    demands, setups, units, holdings = problem
    changed = setups[:period] + (setup,) + setups[period + 1:]
    return rest_list(lot_table((demands, changed, units, holdings)))[0]


def least_without(problem, period):
    """The least cost of the plans that make nothing in a period, None if there are none."""
    demands, setups, units, holdings = problem
    if period == 0 and demands[0] > 0:
        return None
    more = sum(setups) + sum(demands) * (max(units) + sum(holdings)) + 1
    return least_with(problem, period, more)


def least_within(problem, period):
    """The least cost, but for its setup, of the interval plans that make something in a period, None without them."""
    demands, setups = problem[0], problem[1]
    rests = rest_list(lot_table(problem))
    row = lot_row(problem, period)
    costs = [row[end] - setups[period] + rests[end] for end in range(period + 1, len(row))
             if sum(demands[period:end]) > 0]
    if not costs:
        return None
    return stage_costs(problem)[period] + min(costs)
