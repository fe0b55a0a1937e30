"""Plans whose units can be used in so many periods alone."""

from lotplans.checks import check_problem, is_integer
from lotplans.errors import BadPeriod
from lotplans.lots import unit_cost
from lotplans.paths import best_ways
from lotplans.plans import check_plan


def check_age(problem, age):
    """Raises BadPeriod for a value that is not an integer from 1 to the number of periods."""
    if not is_integer(age) or not 1 <= age <= len(problem[0]):
        raise BadPeriod("not an age from 1 to the number of periods")


def is_fresh(problem, age, plan):
    """Whether all units of a plan are used in time if the oldest ones are used first.

    All that is made up to a period is then used up in time if the demands of this time are at least as much.
    """
    check_problem(problem)
    check_age(problem, age)
    check_plan(problem, plan)
    demands = problem[0]
    return all([sum(plan[:start + 1]) <= sum(demands[:start + age]) for start in range(len(plan))])


def fresh_cost(problem, age):
    """The least cost of a plan whose units are used in time."""
    return fresh_way(problem, age)[0]


def fresh_plan(problem, age):
    """A plan with this cost whose units are used in time."""
    sources = fresh_way(problem, age)[1]
    amounts = [0] * len(sources)
    for source, demand in zip(sources, problem[0]):
        amounts[source] += demand
    return tuple(amounts)


def fresh_way(problem, age):
    """The least cost of such a plan, and the tuple of the periods in which each period's demand is made.

    Which of two starts is the cheaper one is the same for all demands. So from demand to demand the cheapest start
    that is in time does not go back, and each start covers demands that are one behind another.
    """
    check_problem(problem)
    check_age(problem, age)
    return best_ways(len(problem[0]), lambda first, end: fresh_step(problem, age, first, end))[-1]


def fresh_step(problem, age, first, end):
    """The least cost of making the demands from first up to, but without, end in one period, and that for each.

    None if there is no period from which all of them are in time.
    """
    found = []
    for source in range(max(0, end - age), first + 1):
        found.append((source_cost(problem, source, first, end), (source,) * (end - first)))
    return min(found, default=None)


def source_cost(problem, source, first, end):
    """What making the demands from first up to, but without, end in a period costs; nothing if they are all 0."""
    demands, setups = problem[0], problem[1]
    if sum(demands[first:end]) == 0:
        return 0
    return setups[source] + sum([demands[goal] * unit_cost(problem, source, goal) for goal in range(first, end)])
