"""What several tests need: the definitions worked out plainly, and values that are not allowed."""

import itertools
import random
import unittest
from fractions import Fraction

from lotplans.errors import BadProblem, NotPositive

SMALL = ((2, 3, 4), (10, 10, 10), (0, 0, 0), (1, 1, 1))
FAR = ((5, 1, 9), (4, 4, 4), (0, 0, 0), (2, 2, 2))
ONE = ((3,), (5,), (2,), (1,))
NOTHING = ((0, 0, 0), (4, 4, 4), (1, 1, 1), (1, 1, 1))

# A value of each kind, and some that look like what is asked for.
ODD_VALUES = [
    0, 1, 7, -1, 10 ** 40, "", "ab", "demands 1", True, False, None,
    (), (0,), (1,), (True,), (None,), ((),), ("a", "b"), (1, True), (1, 2, "3"), (-1, 0, 1),
    [], [0], [1, 2, 3], [[1], [1], [1], [1]], {}, {0: 1}, {"a": (1,)},
    ((1,), [1], (1,), (1,)), (((1, 1),), ((1, 1),), 1),
]


def bad_problems():
    """Values that are not problems, each with the fields of its BadProblem."""
    found = [(value, None, None) for value in ODD_VALUES]
    fine = ((2, 3, 4), (10, 10, 10), (0, 0, 0), (1, 1, 1))
    for part in range(4):
        for index in range(3):
            for thing in (-1, 1000, True, False, None, "1", (), [1], {}):
                rows = [list(row) for row in fine]
                rows[part][index] = thing
                found.append((tuple(tuple(row) for row in rows), part, index))
        short = list(fine)
        short[part] = short[part][:2]
        longer = list(fine)
        longer[part] = longer[part] + (1,)
        listed = list(fine)
        listed[part] = list(listed[part])
        found.extend((tuple(rows), None, None) for rows in (short, longer, listed))
    # the first part with a bad entry is told, and in it the first bad entry
    found.append((((1, 2), (3, -1), (-1, 1), (1, 1)), 1, 1))
    found.append((((1, 2), (1, 2), (-1, None), (-1, 1)), 2, 0))
    # the shape is told ahead of any entry
    found.append((((-1, 2), (1, 2), (1, 2), (1,)), None, None))
    found.append((((), (), (), ()), None, None))
    found.append((((1,) * 13,) * 4, None, None))
    found.append((((1, 2),) * 3, None, None))
    found.append((((1, 2),) * 5, None, None))
    found.append(([(1, 2)] * 4, None, None))
    return found


class Case(unittest.TestCase):
    """A test that asks for errors with their fields."""

    def assert_raised(self, error, fields, call, *values):
        with self.assertRaises(error) as caught:
            call(*values)
        self.assertIs(type(caught.exception), error)
        for name, value in fields.items():
            found = getattr(caught.exception, name)
            self.assertEqual((type(found), found), (type(value), value), (values, name))

    def assert_problem_checked(self, call, *rest):
        """Each wrong problem raises BadProblem, whatever the other values are."""
        for value, part, index in bad_problems():
            for more in [rest] + [tuple(odd for _ in rest) for odd in (None, -1, "x", [])]:
                self.assert_raised(BadProblem, {"part": part, "index": index}, call, value, *more)

    def assert_positive_checked(self, call, *rest):
        """Each wrong problem raises BadProblem, each demand of 0 NotPositive, whatever the other values are."""
        self.assert_problem_checked(call, *rest)
        for demands, index in (((0, 3, 4), 0), ((2, 0, 0), 1), ((2, 3, 0), 2), ((0, 0, 0), 0), ((1,) * 11 + (0,), 11)):
            problem = (demands,) + ((1,) * len(demands),) * 3
            for more in [rest] + [tuple(odd for _ in rest) for odd in (None, -1, "x", [])]:
                self.assert_raised(NotPositive, {"index": index}, call, problem, *more)
        # a thing that is not an entry comes first, even behind a demand of 0
        bad = ((0, 3, 4), (1, 1, 1), (1, 1, 1), (1, 1, -1))
        self.assert_raised(BadProblem, {"part": 3, "index": 2}, call, bad, *rest)


def kept(problem, start, goal):
    total = problem[2][start]
    for period in range(start, goal):
        total += problem[3][period]
    return total


def stock_list(problem, plan):
    return [sum(plan[:k + 1]) - sum(problem[0][:k + 1]) for k in range(len(plan))]


def start_list(plan):
    return [k for k in range(len(plan)) if plan[k] != 0]


def plan_cost(problem, plan):
    total = 0
    for period, stock in enumerate(stock_list(problem, plan)):
        if plan[period] != 0:
            total += problem[1][period]
        total += plan[period] * problem[2][period] + stock * problem[3][period]
    return total


def all_plans(problem):
    """All plans, of whatever kind."""
    demands = problem[0]
    found = []
    for plan in itertools.product(range(sum(demands) + 1), repeat=len(demands)):
        levels = stock_list(problem, plan)
        if min(levels) >= 0 and levels[-1] == 0:
            found.append(plan)
    return found


def interval_plans(problem):
    """All interval plans, ascending, by all sets of periods."""
    demands = problem[0]
    many = len(demands)
    found = set()
    for chosen in itertools.product((False, True), repeat=many):
        plan = [0] * many
        last = None
        for period in range(many):
            if chosen[period]:
                last = period
            if demands[period] and last is None:
                break
            if last is not None:
                plan[last] += demands[period]
        else:
            found.add(tuple(plan))
    return sorted(found)


def least_of(problem):
    return min(plan_cost(problem, plan) for plan in interval_plans(problem))


def part_of(problem, first, behind):
    """The periods from first up to, but without, behind alone."""
    return tuple(row[first:behind] for row in problem)


def random_problem(source, many, greatest=(9, 20, 5, 4)):
    return tuple(tuple(source.randint(0, most) for _ in range(many)) for most in greatest)


def random_problems(seed, times, longest, shortest=1):
    """Problems of several sizes: with small costs (ties), with many demands of 0, and with great entries."""
    source = random.Random(seed)
    found = []
    for _ in range(times):
        many = source.randint(shortest, longest)
        greatest = source.choice([(9, 20, 5, 4), (1, 2, 1, 1), (3, 5, 2, 1), (999, 999, 999, 999), (5, 99, 0, 2)])
        problem = random_problem(source, many, greatest)
        if source.random() < 0.3:
            thin = tuple(demand if source.random() < 0.5 else 0 for demand in problem[0])
            problem = (thin,) + problem[1:]
        found.append(problem)
    return found


EDGES = [
    ONE, NOTHING, SMALL, FAR,
    ((0,), (0,), (0,), (0,)), ((0,), (999,), (999,), (999,)), ((999,), (999,), (999,), (999,)),
    ((999,) * 12, (999,) * 12, (999,) * 12, (999,) * 12),
    ((0,) * 12, (5,) * 12, (1,) * 12, (1,) * 12), ((1,) * 12, (0,) * 12, (0,) * 12, (0,) * 12),
    ((1,) * 12, (1,) * 12, (0,) * 12, (1,) * 12), ((0, 0, 4), (1, 1, 9), (0, 0, 0), (1, 0, 5)),
    ((4, 0, 0), (9, 1, 1), (3, 0, 0), (1, 1, 1)), ((0, 7, 0), (2, 2, 2), (0, 0, 0), (0, 0, 0)),
]


def told(fraction):
    """A ratio as the package tells it."""
    return (fraction.numerator, fraction.denominator)


def read_ratio(value):
    return Fraction(value[0], value[1])


def positive_problems(seed, times, longest, shortest=1):
    """Problems in which all demands are more than 0."""
    found = []
    for problem in random_problems(seed, times, longest, shortest):
        found.append((tuple(max(demand, 1) for demand in problem[0]),) + problem[1:])
    return found


POSITIVE_EDGES = [
    ONE, SMALL, FAR, ((999,), (999,), (999,), (999,)), ((1,), (0,), (0,), (0,)),
    ((1, 1), (5, 3), (0, 0), (1, 1)), ((1,) * 6, (0,) * 6, (0,) * 6, (0,) * 6),
    ((999,) * 6, (999,) * 6, (999,) * 6, (999,) * 6), ((1,) * 6, (1,) * 6, (0,) * 6, (1,) * 6),
    ((1, 2, 3, 4, 5, 6), (9, 1, 9, 1, 9, 1), (3, 0, 5, 0, 1, 7), (0, 1, 0, 2, 0, 3)),
]


def point_of(amounts, marks):
    """The point of two lists of fractions."""
    return (tuple(told(Fraction(x)) for x in amounts), tuple(told(Fraction(x)) for x in marks))


def mixed_point(problem, source):
    """A point that is a mixture of some interval plans with marks, by its construction."""
    demands = problem[0]
    many = len(demands)
    plans = [plan for plan in interval_plans(problem)]
    chosen = [source.choice(plans) for _ in range(source.randint(1, 5))]
    weights = [source.randint(1, 5) for _ in chosen]
    whole = sum(weights)
    amounts, marks = [Fraction(0)] * many, [Fraction(0)] * many
    for weight, plan in zip(weights, chosen):
        for period in range(many):
            amounts[period] += Fraction(weight * plan[period], whole)
            if plan[period] or source.random() < 0.2:
                marks[period] += Fraction(weight, whole)
    return point_of(amounts, marks)


def wild_point(problem, source):
    """A point without regard to rows."""
    demands = problem[0]
    amounts = [Fraction(source.randint(0, 6), source.randint(1, 4)) for _ in demands]
    amounts[0] += 1
    whole = sum(amounts)
    marks = [Fraction(1)] + [Fraction(source.randint(0, 6), 6) for _ in demands[1:]]
    return point_of([amount * sum(demands) / whole for amount in amounts], marks)


def nudged_point(problem, source):
    """A mixed point with one mark a little lower, or some amount made later or earlier."""
    amounts, marks = mixed_point(problem, source)
    amounts = [read_ratio(value) for value in amounts]
    marks = [read_ratio(value) for value in marks]
    many = len(marks)
    if many > 1 and source.random() < 0.5:
        place = source.randint(1, many - 1)
        marks[place] = max(Fraction(0), marks[place] - Fraction(1, source.choice([3, 20, 1000])))
    else:
        one, other = source.randrange(many), source.randrange(many)
        moved = min(amounts[one], Fraction(1, source.choice([2, 30])))
        amounts[one] -= moved
        amounts[other] += moved
    return point_of(amounts, marks)


def all_rows(many):
    return [(last, places) for last in range(many) for size in range(last + 2)
            for places in itertools.combinations(range(last + 1), size)]


def gap(problem, point, row):
    """row_gap by its words, as a fraction."""
    last, places = row
    value = Fraction(0)
    for period in range(last + 1):
        if period in places:
            value += read_ratio(point[1][period]) * sum(problem[0][period:last + 1])
        else:
            value += read_ratio(point[0][period])
    return value - sum(problem[0][:last + 1])


def breaks_some(problem, point):
    return any(gap(problem, point, row) < 0 for row in all_rows(len(problem[0])))


def bad_points():
    """Values that are not points of a problem with the demands 2, 3, 4, each with the index of its BadPoint."""
    amounts, marks = ((2, 1), (7, 2), (7, 2)), ((1, 1), (1, 2), (0, 1))
    found = [(value, None) for value in ODD_VALUES]
    found += [((amounts,), None), ((amounts, marks, marks), None), ([amounts, marks], None),
              ((list(amounts), marks), None), ((amounts, list(marks)), None), ((amounts[:2], marks), None),
              ((amounts, marks + ((1, 1),)), None), ((amounts, marks[:2]), None), ((None, marks), None),
              ((amounts, 1), None), ((amounts, {}), None), (((), ()), None)]
    things = [-1, 0, 2, True, None, "1", (), (1,), (1, 2, 3), [1, 2], {}, (2, 4), (0, 2), (1, 0), (0, 0), (1, -2),
              (-1, 2), (-1, 1), (True, 1), (1, True), (0, True), (None, 1), ("1", 1), ((1, 1), 1), (-3, -2)]
    for index in range(6):
        for thing in things + ([(3, 2), (2, 1), (10 ** 30, 1)] if index >= 3 else []):
            values = list(amounts + marks)
            values[index] = thing
            found.append(((tuple(values[:3]), tuple(values[3:])), index))
            if index < 5:
                values[5] = "later"
                found.append(((tuple(values[:3]), tuple(values[3:])), index))
    for value in (((2, 1), (7, 2), (4, 1)), ((0, 1), (0, 1), (0, 1)), ((10 ** 30, 1), (0, 1), (0, 1))):
        found.append(((value, marks), 6))
    for first in ((1, 2), (0, 1), (10 ** 30 - 1, 10 ** 30)):
        found.append(((amounts, (first,) + marks[1:]), 6))
    return found


FINE_POINT = (((2, 1), (7, 2), (7, 2)), ((1, 1), (1, 2), (0, 1)))


def random_parts(problem, source):
    many = source.randint(1, 6)
    rows = [[0] * len(problem[0]) for _ in range(many)]
    for period, demand in enumerate(problem[0]):
        cuts = sorted(source.randint(0, demand) for _ in range(many - 1))
        for row, low, high in zip(rows, [0] + cuts, cuts + [demand]):
            row[period] = high - low
    return tuple(tuple(row) for row in rows)


def group_least(problem, parts, group):
    demands = tuple(sum(parts[member][k] for member in group) for k in range(len(problem[0])))
    return least_of((demands,) + problem[1:])


def bad_parts():
    """Values that are not parts of a problem with the demands 2, 3, 4, each with the index of its BadParts."""
    fine = ((2, 0, 0), (0, 3, 4))
    wrong = [(value, None) for value in ODD_VALUES if type(value) is not tuple]
    wrong += [((), None), (list(fine), None), (((2, 3, 4),) + ((0, 0, 0),) * 6, None), (("x",) * 7, None)]
    wrong += [(value, 0) for value in ODD_VALUES if type(value) is tuple and 1 <= len(value) <= 6]
    for index in range(2):
        for thing in (None, 5, "abc", [0, 3, 4], (0, 3), (0, 3, 4, 0), (0, 3, -1), (0, 3, 1000), (0, 3, True),
                      (0, 3, None), (0, 3, (4,)), (), {}, False):
            changed = list(fine)
            changed[index] = thing
            wrong.append((tuple(changed), index))
            wrong.append((tuple(changed[:index + 1]) + ((9, 9, 9), "x"), index))
    wrong += [(((2, 3, 4), (0, 0, 1)), 2), (((2, 3, 3),), 1), (((0, 0, 0),) * 6, 6), (((2, 3, 4), (2, 3, 4)), 2),
              (((3, 2, 4),), 1)]
    return wrong


def bad_plans():
    """Values that are not plans of a problem with the demands 2, 3, 4, each with the index of its BadPlan."""
    found = [(value, None) for value in ODD_VALUES]
    found += [(value, None) for value in ((2, 3), (2, 3, 4, 0), [2, 3, 4], (2, 3, True), (2, 3, None), (2, 3, "4"),
                                          (2, 3, (4,)), (1, 4, -4), (10, -1, 0), {0: 2, 1: 3, 2: 4})]
    found += [((1, 4, 4), 0), ((2, 2, 5), 1), ((2, 3, 3), 2), ((3, 3, 4), 3), ((2, 3, 5), 3), ((0, 0, 0), 0),
              ((0, 0, 9), 0), ((2, 0, 7), 1), ((10 ** 30, 0, 0), 3)]
    return found


def some_plans(problem, source):
    """Interval plans and others, with stocks ahead of starts too."""
    found = list(interval_plans(problem))
    source.shuffle(found)
    found = found[:20]
    for plan in found[:10]:
        amounts = list(plan)
        for _ in range(4):
            late = source.randrange(len(amounts))
            if amounts[late]:
                early = source.randint(0, late)
                moved = source.randint(0, amounts[late])
                amounts[late] -= moved
                amounts[early] += moved
        found.append(tuple(amounts))
    return found


def least_by_stocks(problem, lates=None, most=None, rooms=None, load=None):
    """The least cost over all amounts, from period to period for all stocks, under one of the conditions; or None."""
    demands, setups, units, holdings = problem
    states = {0: 0}
    for period, demand in enumerate(demands):
        later = sum(demands[period + 1:])
        found = {}
        for stock, paid in states.items():
            greatest = later + demand - stock
            if rooms is not None:
                greatest = min(greatest, rooms[period] + demand - stock)
            if most is not None:
                greatest = min(greatest, most)
            for amount in range(0 if lates is not None else max(0, demand - stock), greatest + 1):
                left = stock + amount - demand
                begun = int(amount > 0) if load is None else -(-amount // load)
                kept_or_owed = holdings[period] * left if left >= 0 else lates[period] * -left
                total = paid + begun * setups[period] + units[period] * amount + kept_or_owed
                if left not in found or total < found[left]:
                    found[left] = total
        states = found
    return states.get(0)


def all_amounts(total, many):
    """All tuples of so many amounts that add up to a total."""
    if many == 1:
        return [(total,)]
    return [(first,) + rest for first in range(total + 1) for rest in all_amounts(total - first, many - 1)]


def moved_plans(plan, source, times):
    """Amounts with the same sum, drawn by moving some from place to place, again and again from the plan told."""
    found = []
    for _ in range(times):
        amounts = list(plan)
        for _ in range(source.randint(1, 4)):
            one, other = source.randrange(len(plan)), source.randrange(len(plan))
            moved = source.choice([amounts[one], source.randint(0, amounts[one]), min(1, amounts[one])])
            amounts[one] -= moved
            amounts[other] += moved
        found.append(tuple(amounts))
    return found


def is_fine_plan(problem, plan):
    """Whether amounts are a plan, by the words of point 3."""
    levels = stock_list(problem, plan)
    return min(plan) >= 0 and min(levels) >= 0 and levels[-1] == 0


def parts_between(problem, plan):
    """The amounts behind the start of all and behind each stock 0, up to the next stock 0."""
    found, part = [], []
    for amount, level in zip(plan, stock_list(problem, plan)):
        part.append(amount)
        if level == 0:
            found.append(part)
            part = []
    return found


def scaled(problem, factor):
    """The problem with demands and setups times a factor, so that whatever is least there costs so many times more."""
    demands, setups = [tuple(factor * entry for entry in row) for row in problem[:2]]
    return (demands, setups) + problem[2:]


def great_problems(seed, times):
    """Problems of twelve periods with great demands, and costs of which none outweighs all others."""
    source = random.Random(seed)
    found = []
    for _ in range(times):
        low = source.choice([0, 0, 500])
        demands = tuple(source.randint(low, 999) if source.random() < 0.9 else 0 for _ in range(12))
        setups = tuple(source.randint(0, 999) for _ in range(12))
        units = tuple(source.randint(0, source.choice([0, 3])) for _ in range(12))
        found.append((demands, setups, units, tuple(source.randint(0, 2) for _ in range(12))))
    return found


def bad_entry_rows():
    """Values that are not tuples of three entries."""
    found = list(ODD_VALUES) + [(1, 2), (1, 2, 3, 4), [1, 2, 3], {0: 1, 1: 2, 2: 3}, "123"]
    for index in range(3):
        for thing in (-1, 1000, True, False, None, "1", (), [1], {}, 10 ** 30):
            row = [1, 2, 3]
            row[index] = thing
            found.append(tuple(row))
    return found


def bad_amounts():
    """Values that are not integers from 1 to 9999."""
    fine = [value for value in ODD_VALUES if type(value) is int and 1 <= value <= 9999]
    odd = [value for value in ODD_VALUES if not (type(value) is int and value in fine)]
    return odd + [0, 10000, -9999, 10 ** 30, True, False, "5", (5,), [5], {5: 5}, None]
