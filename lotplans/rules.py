"""Setups against all other costs, plans by simple rules, and shares that are even over all orders."""

from math import factorial

from lotplans.checks import check_problem
from lotplans.envelope import with_line
from lotplans.errors import BadRule
from lotplans.groups import groups_of
from lotplans.intervals import least_cost
from lotplans.lots import lot_table
from lotplans.plans import interval_plan
from lotplans.prices import check_parts, group_problem
from lotplans.ratios import ZERO, ratio

RULES = ("balance", "meal", "unit")


def tradeoffs(problem):
    """The ascending tuple of the side costs of interval plans that no other ones undercut."""
    check_problem(problem)
    demands, setups = problem[0], problem[1]
    table = lot_table(problem)
    stages = [[(0, 0)]]
    for end in range(1, len(demands) + 1):
        pairs = []
        for start in range(end):
            paid = setups[start] if sum(demands[start:end]) > 0 else 0
            rest = table[start][end] - paid
            pairs.extend([(ahead + paid, others + rest) for ahead, others in stages[start]])
        stages.append(best_pairs(pairs))
    return tuple(stages[-1])


def best_pairs(pairs):
    """The ascending list of the pairs of which no others are at most as great in both parts."""
    best = []
    for pair in sorted(pairs):
        if not best or pair[1] < best[-1][1]:
            best.append(pair)
    return best


def supported(problem):
    """The pairs of side costs that are least for some factor of the setups, each with the least such factor."""
    pairs = []
    for setups, others in tradeoffs(problem):
        pairs = with_line(pairs, setups, others)
    factors = [even_factor(pairs[k], pairs[k + 1]) for k in range(len(pairs) - 1)] + [ZERO]
    return tuple(zip(pairs, factors))


def even_factor(one, other):
    """The factor of the setups at which two pairs cost the same, the second one having more setups."""
    return ratio(one[1] - other[1], other[0] - one[0])


def rule_plan(problem, rule):
    """The interval plan whose lots go on as long as a rule lets them."""
    check_problem(problem)
    if rule not in RULES:
        raise BadRule("not a rule")
    demands = problem[0]
    periods = []
    period = next_demand(demands, 0)
    while period < len(demands):
        periods.append(period)
        period = next_demand(demands, rule_end(problem, rule, period))
    return interval_plan(demands, periods)


def next_demand(demands, period):
    """The first period with a demand from a period on, the number of periods if there is none."""
    while period < len(demands) and demands[period] == 0:
        period += 1
    return period


def rule_end(problem, rule, start):
    """The first period, or the number of periods, that the lot from start does not cover."""
    end = start + 1
    while end < len(problem[0]) and goes_on(problem, rule, start, end):
        end += 1
    return end


def goes_on(problem, rule, start, end):
    """Whether a rule lets the lot from start up to, but without, end cover the next period, too."""
    demands = problem[0]
    setup = problem[1][start]
    paid = setup + keeping(problem, start, end)
    more = setup + keeping(problem, start, end + 1)
    if rule == "balance":
        return more - setup <= setup
    if rule == "meal":
        return more * (end - start) <= paid * (end + 1 - start)
    return more * sum(demands[start:end]) <= paid * sum(demands[start:end + 1])


def keeping(problem, start, end):
    """What keeping the demands of a lot costs, its holdings alone."""
    demands, holdings = problem[0], problem[3]
    return sum([demands[goal] * sum(holdings[start:goal]) for goal in range(start, end)])


def even_shares(problem, parts):
    """What each member adds to the group_cost of those ahead, on average over all orders."""
    check_problem(problem)
    check_parts(problem, parts)
    many = len(parts)
    costs = {group: least_cost(group_problem(problem, parts, group)) for group in groups_of(many)}
    return tuple([even_share(costs, many, member) for member in range(many)])


def even_share(costs, many, member):
    """The ratio that one of so many members adds on average; costs has each group's group_cost."""
    added = 0
    for group in costs:
        if member not in group:
            orders = factorial(len(group)) * factorial(many - len(group) - 1)
            added += orders * (costs[tuple(sorted(group + (member,)))] - costs[group])
    return ratio(added, factorial(many))
