"""Problems, their plans and what these cost."""

from lotplans.checks import are_places, check_period, check_problem
from lotplans.errors import BadPeriod, BadPlan, BadStarts
from lotplans.lots import unit_cost
from lotplans.plans import (
    check_plan, has_intervals, interval_plan, running_cost, setup_cost, start_periods, stock_levels,
)


def kept_cost(problem, start, goal):
    """What making a unit in one period and keeping it until another one costs."""
    check_problem(problem)
    check_period(problem, start)
    check_period(problem, goal)
    if goal < start:
        raise BadPeriod("the second period is ahead of the first one")
    return unit_cost(problem, start, goal)


def is_plan(problem, value):
    """Whether a value is a plan of the problem."""
    check_problem(problem)
    try:
        check_plan(problem, value)
    except BadPlan:
        return False
    return True


def is_interval(problem, plan):
    """Whether a plan has no stock at the end of the period ahead of each of its starts."""
    check_problem(problem)
    check_plan(problem, plan)
    return has_intervals(problem, plan)


def stocks(problem, plan):
    """The tuple of the stocks of a plan at the ends of the periods."""
    check_problem(problem)
    check_plan(problem, plan)
    return tuple(stock_levels(problem[0], plan))


def starts(problem, plan):
    """The ascending tuple of the periods in which a plan makes something."""
    check_problem(problem)
    check_plan(problem, plan)
    return start_periods(plan)


def cost(problem, plan):
    """What a plan costs: setups, units and holdings."""
    check_problem(problem)
    check_plan(problem, plan)
    return setup_cost(problem, plan) + running_cost(problem, plan, stock_levels(problem[0], plan))


def plan_of(problem, periods):
    """The interval plan that makes in each of the periods the demands up to the next one of them."""
    check_problem(problem)
    demands = problem[0]
    if not are_places(periods, len(demands)):
        raise BadStarts("not an ascending tuple of different periods")
    ahead = demands[:periods[0]] if periods else demands
    if sum(ahead) > 0:
        raise BadStarts("there is a demand ahead of the first one")
    return interval_plan(demands, periods)


def cheapest_start(problem, periods, goal):
    """The latest one of the ascending periods, not behind goal, from which a unit for goal costs least."""
    best = periods[0]
    for period in periods:
        if period <= goal and unit_cost(problem, period, goal) <= unit_cost(problem, best, goal):
            best = period
    return best


def improved(problem, plan):
    """The plan in which each demand is made at the start of the plan from which it costs least."""
    check_problem(problem)
    check_plan(problem, plan)
    periods = start_periods(plan)
    amounts = [0] * len(plan)
    for goal, demand in enumerate(problem[0]):
        if demand > 0:
            amounts[cheapest_start(problem, periods, goal)] += demand
    return tuple(amounts)
