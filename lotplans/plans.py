"""What plans are made of, for problems and plans that are checked already."""

from lotplans.checks import are_amounts
from lotplans.errors import BadPlan
from lotplans.ratios import ONE, ZERO


def stock_levels(demands, amounts):
    """The list of the stocks at the ends of the periods, below 0 where demands are not met."""
    levels = []
    level = 0
    for demand, amount in zip(demands, amounts):
        level = level + amount - demand
        levels.append(level)
    return levels


def check_plan(problem, plan):
    """Raises BadPlan for a value that is not a plan of the problem."""
    demands = problem[0]
    if not are_amounts(plan, len(demands)):
        raise BadPlan(None)
    levels = stock_levels(demands, plan)
    for period, level in enumerate(levels):
        if level < 0:
            raise BadPlan(period)
    if levels[-1] > 0:
        raise BadPlan(len(demands))


def start_periods(plan):
    """The tuple of the periods with an amount that is not 0."""
    return tuple([period for period, amount in enumerate(plan) if amount > 0])


def has_intervals(problem, plan):
    """Whether no stock is left at the end of the period ahead of any start of the plan."""
    levels = stock_levels(problem[0], plan)
    return all([start == 0 or levels[start - 1] == 0 for start in start_periods(plan)])


def interval_plan(demands, periods):
    """The plan in which each of the periods makes the demands up to the next one of them."""
    amounts = [0] * len(demands)
    ends = list(periods[1:]) + [len(demands)]
    for start, end in zip(periods, ends):
        amounts[start] = sum(demands[start:end])
    return tuple(amounts)


def start_marks(plan):
    """The tuple of a mark for each period, as a ratio: 1 at the starts of the plan, 0 elsewhere."""
    return tuple([ONE if amount > 0 else ZERO for amount in plan])
