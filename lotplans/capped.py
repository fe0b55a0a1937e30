"""Plans without amounts above a greatest one."""

from lotplans.checks import check_amount, check_problem
from lotplans.lots import part_of
from lotplans.paths import best_ways
from lotplans.plans import check_plan, stretches


def is_capped(problem, most, plan):
    """Whether no amount of a plan is greater than the greatest one."""
    check_problem(problem)
    check_amount(most)
    check_plan(problem, plan)
    return max(plan) <= most


def is_regular(problem, most, plan):
    """Whether moreover, from each stock 0 to the next one, at most one amount is neither 0 nor the greatest one."""
    if not is_capped(problem, most, plan):
        return False
    return all([len([amount for amount in part if amount not in (0, most)]) <= 1
                for part in stretches(problem[0], plan)])


def first_short(problem, most):
    """The first period up to which the demands are more than can be made, None if there is none."""
    check_problem(problem)
    check_amount(most)
    demands = problem[0]
    for period in range(len(demands)):
        if sum(demands[:period + 1]) > most * (period + 1):
            return period
    return None


def capped_cost(problem, most):
    """The least cost of a plan without greater amounts, None if there is none."""
    best = capped_way(problem, most)
    return None if best is None else best[0]


def capped_plan(problem, most):
    """A regular plan with this cost, None if there is none."""
    best = capped_way(problem, most)
    return None if best is None else best[1]


def capped_way(problem, most):
    """The least cost and the amounts of a regular plan, None if there is none."""
    check_problem(problem)
    check_amount(most)
    return best_ways(len(problem[0]), lambda start, end: regular_part(part_of(problem, start, end), most))[-1]


def regular_part(part, most):
    """The least cost and the amounts of a plan of a part in which one amount at most is neither 0 nor the greatest one.

    None if there is no such plan. The one amount is what full ones leave of the demands.
    """
    rest = sum(part[0]) % most
    ways = {0: (0, ())}
    for period in range(len(part[0])):
        ways = longer_ways(part, most, rest, ways, period)
    return ways.get(sum(part[0]))


def longer_ways(part, most, rest, ways, period):
    """The least costs and amounts up to a period, by all that is made, from those up to the one ahead.

    All that is made is a number of full amounts just as long as the rest is not made.
    """
    demands, setups, units, holdings = part
    wanted = sum(demands[:period + 1])
    found = {}
    for made, (paid, amounts) in ways.items():
        for amount in (0, rest, most):
            level = made + amount - wanted
            if level >= 0 and (amount != rest or made % most == 0):
                setup = setups[period] if amount > 0 else 0
                more = paid + setup + units[period] * amount + holdings[period] * level
                way = (more, amounts + (amount,))
                found[made + amount] = min(way, found.get(made + amount, way))
    return found
