"""Plans in which each load that is begun costs a setup."""

from lotplans.checks import check_amount, check_problem
from lotplans.lots import part_of, unit_cost
from lotplans.paths import best_ways
from lotplans.plans import check_plan, running_cost, stock_levels, stretches


def truck_cost(problem, load, plan):
    """What a plan costs if each load that is begun costs a setup."""
    check_problem(problem)
    check_amount(load)
    check_plan(problem, plan)
    return paid_loads(problem, load, plan)


def paid_loads(problem, load, plan):
    """truck_cost of values that are checked already."""
    loads = [(amount + load - 1) // load for amount in plan]
    begun = sum([setup * count for setup, count in zip(problem[1], loads)])
    return begun + running_cost(problem, plan, stock_levels(problem[0], plan))


def is_loaded(problem, load, plan):
    """Whether, from each stock 0 to the next one, at most one amount is not a number of full loads."""
    check_problem(problem)
    check_amount(load)
    check_plan(problem, plan)
    return all([len([amount for amount in part if amount % load != 0]) <= 1 for part in stretches(problem[0], plan)])


def least_truck_cost(problem, load):
    """The least cost of a plan if each load that is begun costs a setup."""
    return truck_way(problem, load)[0]


def truck_plan(problem, load):
    """A loaded plan with this cost."""
    return truck_way(problem, load)[1]


def truck_way(problem, load):
    """The least cost and the amounts of a loaded plan."""
    check_problem(problem)
    check_amount(load)
    return best_ways(len(problem[0]), lambda start, end: loaded_part(part_of(problem, start, end), load))[-1]


def loaded_part(part, load):
    """The least cost and the amounts of a plan of a part in which one amount at most is not a number of full loads."""
    plans = [loads_with_rest(part, load, place) for place in range(len(part[0]))]
    return min([(paid_loads(part, load, plan), plan) for plan in plans if plan is not None])


def loads_with_rest(part, load, place):
    """The cheapest amounts if what full loads leave of all demands is made in one place; None if that is too late.

    A full load costs the same whatever else is made, so each one is made where it costs least until it is needed.
    """
    demands = part[0]
    amounts = [0] * len(demands)
    amounts[place] = sum(demands) % load
    level, best = 0, 0
    for period, demand in enumerate(demands):
        if load_cost(part, load, period, period) <= load_cost(part, load, best, period):
            best = period
        level -= demand
        if period == place:
            level += sum(demands) % load
        if level < 0:
            # so many full loads that nothing lacks
            more = -(level // load) * load
            amounts[best] += more
            level += more
    return tuple(amounts) if level == 0 else None


def load_cost(part, load, start, period):
    """What a full load made in start and kept until a period costs."""
    return part[1][start] + load * unit_cost(part, start, period)
