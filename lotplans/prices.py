"""Prices that show that no plan costs less, and what the members of a problem share."""

from lotplans.checks import are_entries, are_places, check_problem, is_integer, is_tuple_of
from lotplans.errors import BadGroup, BadParts
from lotplans.groups import groups_of
from lotplans.intervals import least_cost, stage_costs
from lotplans.lots import unit_cost
from lotplans.ratios import is_less, is_ratio, ratio, total

MOST_MEMBERS = 6


def prices(problem):
    """A tuple of prices of the problem.

    What the least cost rises by with each period will do: its price for a unit, and for keeping this unit to the
    end of all, falls from demand to demand. So the prices that are above what making in some period costs are those
    of a lot from there, and together they are at most what the least cost rises by over this lot.
    """
    costs = stage_costs(problem)
    return tuple([costs[k] - costs[k - 1] for k in range(1, len(costs))])


def shows_prices(problem, value):
    """Whether a value is a tuple of prices of the problem."""
    check_problem(problem)
    demands = problem[0]
    many = len(demands)
    if not is_tuple_of(value, many) or not all([is_integer(thing) for thing in value]):
        return False
    if any([demand == 0 and price != 0 for demand, price in zip(demands, value)]):
        return False
    return sum(value) == least_cost(problem) and all([keeps_setup(problem, value, start) for start in range(many)])


def keeps_setup(problem, value, start):
    """Whether the setup of a period is at least what prices are above the costs of making there."""
    demands = problem[0]
    above = 0
    for goal in range(start, len(demands)):
        above += max(0, value[goal] - demands[goal] * unit_cost(problem, start, goal))
    return above <= problem[1][start]


def check_parts(problem, parts):
    """Raises BadParts for a value that does not tell parts of the problem."""
    demands = problem[0]
    if not isinstance(parts, tuple) or not 1 <= len(parts) <= MOST_MEMBERS:
        raise BadParts(None)
    for index, part in enumerate(parts):
        if not are_entries(part, len(demands)):
            raise BadParts(index)
    if part_sums(parts, len(demands)) != demands:
        raise BadParts(len(parts))


def part_sums(rows, many):
    """The tuple of the sums, for each of so many periods, of what the rows have there."""
    return tuple([sum([row[period] for row in rows]) for period in range(many)])


def group_cost(problem, parts, group):
    """The least cost of the problem with the demands of a group of members alone."""
    check_problem(problem)
    check_parts(problem, parts)
    if not are_places(group, len(parts)):
        raise BadGroup("not an ascending tuple of different members")
    return least_cost(group_problem(problem, parts, group))


def group_problem(problem, parts, group):
    """The problem with the demands of a group of members alone."""
    return (part_sums([parts[member] for member in group], len(problem[0])),) + problem[1:]


def shares(problem, parts):
    """A tuple of shares of the members: what prices ask for their demands."""
    check_problem(problem)
    check_parts(problem, parts)
    told = prices(problem)
    return tuple([priced(problem[0], told, part) for part in parts])


def priced(demands, told, part):
    """The ratio that prices of all demands ask for a part of them."""
    return total([ratio(price * entry, demand) for demand, price, entry in zip(demands, told, part) if demand > 0])


def shows_shares(problem, parts, value):
    """Whether a value tells shares of the members."""
    check_problem(problem)
    check_parts(problem, parts)
    if not is_tuple_of(value, len(parts)) or not all([is_ratio(thing) for thing in value]):
        return False
    if total(value) != (least_cost(problem), 1):
        return False
    return not any([asks_too_much(problem, parts, value, group) for group in groups_of(len(parts))])


def asks_too_much(problem, parts, value, group):
    """Whether the shares of a group add up to more than its group_cost."""
    asked = total([value[member] for member in group])
    return is_less((least_cost(group_problem(problem, parts, group)), 1), asked)
