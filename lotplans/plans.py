"""What plans are made of, for problems and plans that are checked already."""

from lotplans.checks import are_amounts
from lotplans.errors import BadPlan
from lotplans.ratios import ONE, ZERO


def stock_levels(demands, amounts):
    """The list of the stocks at the ends of the periods, below 0 where demands are not met."""
    levels = []
    level = 0
    for demand, amount in zip(demands, amounts):
        level = level + amount - demand
        levels.append(level)
    return levels


def check_plan(problem, plan):
    """Raises BadPlan for a value that is not a plan of the problem."""
    demands = problem[0]
    if not are_amounts(plan, len(demands)):
        raise BadPlan(None)
    levels = stock_levels(demands, plan)
    for period, level in enumerate(levels):
        if level < 0:
            raise BadPlan(period)
    if levels[-1] > 0:
        raise BadPlan(len(demands))


def start_periods(plan):
    """The tuple of the periods with an amount that is not 0."""
    return tuple([period for period, amount in enumerate(plan) if amount > 0])


def has_intervals(problem, plan):
    """Whether no stock is left at the end of the period ahead of any start of the plan."""
    levels = stock_levels(problem[0], plan)
    return all([start == 0 or levels[start - 1] == 0 for start in start_periods(plan)])


def interval_plan(demands, periods):
    """The plan in which each of the periods makes the demands up to the next one of them."""
    amounts = [0] * len(demands)
    ends = list(periods[1:]) + [len(demands)]
    for start, end in zip(periods, ends):
        amounts[start] = sum(demands[start:end])
    return tuple(amounts)


def single_plan(many, period, amount):
    """The amounts of so many periods that are 0 but for one of them."""
    return (0,) * period + (amount,) + (0,) * (many - period - 1)


def setup_cost(problem, amounts):
    """What the setups of the periods with an amount cost."""
    return sum([setup for setup, amount in zip(problem[1], amounts) if amount > 0])


def running_cost(problem, amounts, levels):
    """What the units of the amounts cost, and keeping the stocks at the ends of the periods."""
    making = sum([unit * amount for unit, amount in zip(problem[2], amounts)])
    return making + sum([holding * level for holding, level in zip(problem[3], levels)])


def stretches(demands, plan):
    """The list of the amounts behind the start of all, and behind each stock 0, up to the next stock 0."""
    found = []
    first = 0
    for period, level in enumerate(stock_levels(demands, plan)):
        if level == 0:
            found.append(plan[first:period + 1])
            first = period + 1
    return found


def start_marks(plan):
    """The tuple of a mark for each period, as a ratio: 1 at the starts of the plan, 0 elsewhere."""
    return tuple([ONE if amount > 0 else ZERO for amount in plan])
