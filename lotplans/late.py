"""Plans in which demands may be owed."""

from lotplans.checks import are_amounts, are_entries, check_problem, is_integer, is_tuple_of
from lotplans.errors import BadLates, BadPlan
from lotplans.lots import part_of
from lotplans.paths import best_ways
from lotplans.plans import running_cost, setup_cost, single_plan, stock_levels


def check_lates(problem, lates):
    """Raises BadLates for a value that does not tell for each period what a unit owed costs."""
    if not are_entries(lates, len(problem[0])):
        raise BadLates("not an entry for each period")


def check_late_plan(problem, plan):
    """Raises BadPlan for a value that is not amounts that add up to all demands."""
    demands = problem[0]
    if not are_amounts(plan, len(demands)):
        raise BadPlan(None)
    if sum(plan) != sum(demands):
        raise BadPlan(len(demands))


def late_cost(problem, lates, plan):
    """What a plan costs that may owe demands."""
    check_problem(problem)
    check_lates(problem, lates)
    check_late_plan(problem, plan)
    return paid_late(problem, lates, plan)


def paid_late(problem, lates, plan):
    """late_cost of values that are checked already."""
    levels = stock_levels(problem[0], plan)
    owed = sum([late * max(-level, 0) for late, level in zip(lates, levels)])
    return setup_cost(problem, plan) + running_cost(problem, plan, [max(level, 0) for level in levels]) + owed


def late_lot(problem, lates, start, end):
    """The least cost and the amounts of a late lot from start up to, but without, end."""
    part = part_of(problem, start, end)
    many = end - start
    plans = [single_plan(many, period, sum(part[0])) for period in range(many)]
    return min([(paid_late(part, lates[start:end], plan), plan) for plan in plans])


def late_ways(problem, lates):
    """The list of the least cost and the amounts for the first 0, 1, .. periods alone.

    Some least plan consists of late lots: in it some stock between any two amounts is 0.
    """
    return best_ways(len(problem[0]), lambda start, end: late_lot(problem, lates, start, end))


def late_stages(problem, lates):
    """The tuple of the least costs of the first 0, 1, .. periods alone, if demands may be owed."""
    check_problem(problem)
    check_lates(problem, lates)
    return tuple([paid for paid, amounts in late_ways(problem, lates)])


def late_plan(problem, lates):
    """A plan with the least cost, if demands may be owed."""
    check_problem(problem)
    check_lates(problem, lates)
    return late_ways(problem, lates)[-1][1]


def late_prices(problem, lates):
    """Prices that add up to the least cost, those of no late lot to more than it costs.

    What the least cost rises by with each period will do: over a lot it rises by at most what the lot costs.
    """
    stages = late_stages(problem, lates)
    return tuple([stages[k] - stages[k - 1] for k in range(1, len(stages))])


def shows_late_prices(problem, lates, value):
    """Whether a value is a tuple of prices if demands may be owed."""
    check_problem(problem)
    check_lates(problem, lates)
    many = len(problem[0])
    if not is_tuple_of(value, many) or not all([is_integer(thing) for thing in value]):
        return False
    lots = [(start, end) for start in range(many) for end in range(start + 1, many + 1)]
    if any([sum(value[start:end]) > late_lot(problem, lates, start, end)[0] for start, end in lots]):
        return False
    return sum(value) == late_ways(problem, lates)[-1][0]
