"""What several tests need: the definitions worked out plainly, and values that are not allowed."""

import itertools
import random
import unittest

SMALL = ((2, 3, 4), (10, 10, 10), (0, 0, 0), (1, 1, 1))
FAR = ((5, 1, 9), (4, 4, 4), (0, 0, 0), (2, 2, 2))
ONE = ((3,), (5,), (2,), (1,))
NOTHING = ((0, 0, 0), (4, 4, 4), (1, 1, 1), (1, 1, 1))

# A value of each kind, and some that look like what is asked for.
ODD_VALUES = [
    0, 1, 7, -1, 10 ** 40, "", "ab", "demands 1", True, False, None,
    (), (0,), (1,), (True,), (None,), ((),), ("a", "b"), (1, True), (1, 2, "3"), (-1, 0, 1),
    [], [0], [1, 2, 3], [[1], [1], [1], [1]], {}, {0: 1}, {"a": (1,)},
    ((1,), [1], (1,), (1,)), (((1, 1),), ((1, 1),), 1),
]


def bad_problems():
    """Values that are not problems, each with the fields of its BadProblem."""
    found = [(value, None, None) for value in ODD_VALUES]
    fine = ((2, 3, 4), (10, 10, 10), (0, 0, 0), (1, 1, 1))
    for part in range(4):
        for index in range(3):
            for thing in (-1, 1000, True, False, None, "1", (), [1], {}):
                rows = [list(row) for row in fine]
                rows[part][index] = thing
                found.append((tuple(tuple(row) for row in rows), part, index))
        short = list(fine)
        short[part] = short[part][:2]
        longer = list(fine)
        longer[part] = longer[part] + (1,)
        listed = list(fine)
        listed[part] = list(listed[part])
        found.extend((tuple(rows), None, None) for rows in (short, longer, listed))
    # the first part with a bad entry is told, and in it the first bad entry
    found.append((((1, 2), (3, -1), (-1, 1), (1, 1)), 1, 1))
    found.append((((1, 2), (1, 2), (-1, None), (-1, 1)), 2, 0))
    # the shape is told ahead of any entry
    found.append((((-1, 2), (1, 2), (1, 2), (1,)), None, None))
    found.append((((), (), (), ()), None, None))
    found.append((((1,) * 13,) * 4, None, None))
    found.append((((1, 2),) * 3, None, None))
    found.append((((1, 2),) * 5, None, None))
    found.append(([(1, 2)] * 4, None, None))
    return found


class Case(unittest.TestCase):
    """A test that asks for errors with their fields."""

    def assert_raised(self, error, fields, call, *values):
        with self.assertRaises(error) as caught:
            call(*values)
        self.assertIs(type(caught.exception), error)
        for name, value in fields.items():
            found = getattr(caught.exception, name)
            self.assertEqual((type(found), found), (type(value), value), (values, name))

    def assert_problem_checked(self, call, *rest):
        """Each wrong problem raises BadProblem, whatever the other values are."""
        from lotplans.errors import BadProblem
        others = [rest] + [tuple(odd for _ in rest) for odd in (None, -1, "x", [])]
        for value, part, index in bad_problems():
            for more in others:
                self.assert_raised(BadProblem, {"part": part, "index": index}, call, value, *more)


def kept(problem, start, goal):
    total = problem[2][start]
    for period in range(start, goal):
        total += problem[3][period]
    return total


def stock_list(problem, plan):
    return [sum(plan[:k + 1]) - sum(problem[0][:k + 1]) for k in range(len(plan))]


def start_list(plan):
    return [k for k in range(len(plan)) if plan[k] != 0]


def plan_cost(problem, plan):
    total = 0
    for period, stock in enumerate(stock_list(problem, plan)):
        if plan[period] != 0:
            total += problem[1][period]
        total += plan[period] * problem[2][period] + stock * problem[3][period]
    return total


def all_plans(problem):
    """All plans, of whatever kind."""
    demands = problem[0]
    found = []
    for plan in itertools.product(range(sum(demands) + 1), repeat=len(demands)):
        levels = stock_list(problem, plan)
        if min(levels) >= 0 and levels[-1] == 0:
            found.append(plan)
    return found


def interval_plans(problem):
    """All interval plans, ascending, by all sets of periods."""
    demands = problem[0]
    many = len(demands)
    found = set()
    for chosen in itertools.product((False, True), repeat=many):
        plan = [0] * many
        last = None
        for period in range(many):
            if chosen[period]:
                last = period
            if demands[period] and last is None:
                break
            if last is not None:
                plan[last] += demands[period]
        else:
            found.add(tuple(plan))
    return sorted(found)


def least_of(problem):
    return min(plan_cost(problem, plan) for plan in interval_plans(problem))


def part_of(problem, first, behind):
    """The periods from first up to, but without, behind alone."""
    return tuple(row[first:behind] for row in problem)


def random_problem(source, many, greatest=(9, 20, 5, 4)):
    return tuple(tuple(source.randint(0, most) for _ in range(many)) for most in greatest)


def random_problems(seed, times, longest, shortest=1):
    """Problems of several sizes: with small costs (ties), with many demands of 0, and with great entries."""
    source = random.Random(seed)
    found = []
    for _ in range(times):
        many = source.randint(shortest, longest)
        greatest = source.choice([(9, 20, 5, 4), (1, 2, 1, 1), (3, 5, 2, 1), (999, 999, 999, 999), (5, 99, 0, 2)])
        problem = random_problem(source, many, greatest)
        if source.random() < 0.3:
            thin = tuple(demand if source.random() < 0.5 else 0 for demand in problem[0])
            problem = (thin,) + problem[1:]
        found.append(problem)
    return found


EDGES = [
    ONE, NOTHING, SMALL, FAR,
    ((0,), (0,), (0,), (0,)), ((0,), (999,), (999,), (999,)), ((999,), (999,), (999,), (999,)),
    ((999,) * 12, (999,) * 12, (999,) * 12, (999,) * 12),
    ((0,) * 12, (5,) * 12, (1,) * 12, (1,) * 12), ((1,) * 12, (0,) * 12, (0,) * 12, (0,) * 12),
    ((1,) * 12, (1,) * 12, (0,) * 12, (1,) * 12), ((0, 0, 4), (1, 1, 9), (0, 0, 0), (1, 0, 5)),
    ((4, 0, 0), (9, 1, 1), (3, 0, 0), (1, 1, 1)), ((0, 7, 0), (2, 2, 2), (0, 0, 0), (0, 0, 0)),
]
