"""Least costs and the interval plans that have them."""

from lotplans.checks import check_problem
from lotplans.errors import TooMany
from lotplans.lots import lot_table

MOST_PLANS = 500


def least_cost(problem):
    """The least cost of a plan."""
    return stage_costs(problem)[-1]


def stage_costs(problem):
    """The tuple of the least costs of the first 0, 1, .. periods alone."""
    check_problem(problem)
    table = lot_table(problem)
    costs = [0]
    for end in range(1, len(table) + 1):
        costs.append(min([costs[start] + table[start][end] for start in range(end)]))
    return tuple(costs)


def rest_costs(problem):
    """The tuple of the least costs of the periods from 0, 1, .. on alone."""
    check_problem(problem)
    return tuple(rest_list(lot_table(problem)))


def rest_list(table):
    """The list of the least costs from each period on, and 0 behind the last one."""
    many = len(table)
    costs = [0] * (many + 1)
    for start in reversed(range(many)):
        costs[start] = min([table[start][end] + costs[end] for end in range(start + 1, many + 1)])
    return costs


def steps_from(demands, table, rests, period):
    """How least plans go on from a period that begins without stock.

    A step is a pair: the amount made in the period, and the next period that begins without stock. A step with
    an amount ends behind a demand, so that each plan is told by one row of steps. The amounts rise.
    """
    steps = []
    if demands[period] == 0 and rests[period + 1] == rests[period]:
        steps.append((0, period + 1))
    amount = 0
    for end in range(period + 1, len(demands) + 1):
        amount += demands[end - 1]
        if demands[end - 1] > 0 and table[period][end] + rests[end] == rests[period]:
            steps.append((amount, end))
    return steps


def step_amounts(amount, period, end):
    """The amounts of the periods that a step passes."""
    return (amount,) + (0,) * (end - period - 1)


def least_plans(problem):
    """The ascending list of all interval plans with the least cost."""
    check_problem(problem)
    demands = problem[0]
    table = lot_table(problem)
    rests = rest_list(table)
    tails = [[()] for _ in rests]
    for period in reversed(range(len(demands))):
        steps = steps_from(demands, table, rests, period)
        tails[period] = [step_amounts(amount, period, end) + tail for amount, end in steps for tail in tails[end]]
    if len(tails[0]) > MOST_PLANS:
        raise TooMany(MOST_PLANS)
    return tails[0]


def least_plan(problem):
    """The least one of the interval plans with the least cost, however many there are."""
    check_problem(problem)
    demands = problem[0]
    table = lot_table(problem)
    rests = rest_list(table)
    plan = ()
    while len(plan) < len(demands):
        amount, end = steps_from(demands, table, rests, len(plan))[0]
        plan = plan + step_amounts(amount, len(plan), end)
    return plan
