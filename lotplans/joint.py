"""Items that share setups."""

from lotplans.checks import are_entries, are_some_entries, check_problem, is_tuple_of
from lotplans.errors import BadJoint, BadProblem
from lotplans.groups import groups_of
from lotplans.intervals import rest_list
from lotplans.lots import lot_table
from lotplans.paths import best_ways
from lotplans.plans import single_plan

MOST_JOINT_PERIODS = 8
MOST_JOINT_ITEMS = 3


def check_joint(joint):
    """Raises BadJoint for a value that does not tell items that share setups."""
    if not is_tuple_of(joint, 2) or not are_some_entries(joint[0], MOST_JOINT_PERIODS):
        raise BadJoint(None)
    setups, problems = joint
    if not isinstance(problems, tuple) or not 1 <= len(problems) <= MOST_JOINT_ITEMS:
        raise BadJoint(None)
    for index, problem in enumerate(problems):
        if not is_problem_of(problem, len(setups)):
            raise BadJoint(index)


def is_problem_of(value, many):
    """Whether a value is a problem with so many periods."""
    try:
        check_problem(value)
    except BadProblem:
        return False
    return len(value[0]) == many


def check_split(joint, split):
    """Raises BadJoint for a value that does not split the shared setups among the items."""
    setups, problems = joint
    if not is_tuple_of(split, len(problems)):
        raise BadJoint(None)
    for index, row in enumerate(split):
        if not are_entries(row, len(setups)):
            raise BadJoint(index)
    if [sum([row[period] for row in split]) for period in range(len(setups))] != list(setups):
        raise BadJoint(len(problems))


def joint_cost(joint):
    """The least cost of plans of all items together."""
    return joint_way(joint)[0]


def joint_plans(joint):
    """A tuple of plans of the items with this cost."""
    return joint_way(joint)[1]


def joint_way(joint):
    """The least cost and the plans: the cheapest ones of all groups of periods that alone may have amounts."""
    check_joint(joint)
    setups, problems = joint
    tables = [lot_table(problem) for problem in problems]
    found = []
    for periods in groups_of(len(setups)):
        ways = [way_within(problem[0], table, periods) for problem, table in zip(problems, tables)]
        if None not in ways:
            paid = sum([setups[period] for period in periods]) + sum([way[0] for way in ways])
            found.append((paid, tuple([way[1] for way in ways])))
    return min(found)


def way_within(demands, table, periods):
    """The least cost and the plan of an item with amounts in some periods alone, None if there is none."""
    return best_ways(len(demands), lambda start, end: lot_within(demands, table, periods, start, end))[-1]


def lot_within(demands, table, periods, start, end):
    """The cost and the amounts of a lot, None if it begins where no amount may be."""
    amount = sum(demands[start:end])
    if amount > 0 and start not in periods:
        return None
    return (table[start][end], single_plan(end - start, 0, amount))


def joint_bound(joint, split):
    """The sum of the least costs of the items if each one's setups are increased by its part of a split."""
    check_joint(joint)
    check_split(joint, split)
    return sum([increased_cost(problem, row) for problem, row in zip(joint[1], split)])


def increased_cost(problem, more):
    """The least cost of a problem with its setups increased, even above what setups of problems may be."""
    demands, setups, units, holdings = problem
    raised = tuple([setup + extra for setup, extra in zip(setups, more)])
    return rest_list(lot_table((demands, raised, units, holdings)))[0]
