"""Points 9 and 12: points and rows."""

import itertools
import random
import unittest
from fractions import Fraction

from lotplans.errors import BadPoint, BadProblem, BadRow, NotPositive
from lotplans.points import broken_row, by_rows, point_cost, row_gap
from tests.helpers import (
    FINE_POINT, ODD_VALUES, ONE, POSITIVE_EDGES, SMALL, Case, all_plans, all_rows, bad_points, breaks_some, gap,
    kept, least_of, mixed_point, nudged_point, plan_cost, point_of, positive_problems, read_ratio, told, wild_point,
)
from tests.lp import least_value

TWO = ((1, 1), (5, 3), (0, 0), (1, 1))
HALF = (((3, 2), (1, 2)), ((1, 1), (1, 2)))
THIN = (((3, 2), (1, 2)), ((1, 1), (1, 4)))


def some_points(seed, times, longest, shortest=1):
    source = random.Random(seed)
    for problem in POSITIVE_EDGES + positive_problems(seed, times, longest, shortest):
        for make in (mixed_point, wild_point, nudged_point):
            yield problem, make(problem, source)


def paid(problem, point):
    """point_cost by its words, as a fraction."""
    amounts, marks = [[read_ratio(value) for value in part] for part in point]
    total = Fraction(0)
    for period, demand in enumerate(problem[0]):
        stock = sum(amounts[:period + 1]) - sum(problem[0][:period + 1])
        total += problem[1][period] * marks[period] + problem[2][period] * amounts[period]
        total += problem[3][period] * stock
    return total


class Cost(Case):
    def test_definition(self):
        for problem, point in some_points(51, 150, 7):
            self.assertEqual(point_cost(problem, point), told(paid(problem, point)))

    def test_plans_as_points(self):
        for problem in (SMALL, TWO, ((1, 2, 1), (7, 1, 5), (1, 2, 0), (0, 3, 9))):
            for plan in all_plans(problem):
                point = point_of(plan, [int(amount > 0) for amount in plan])
                self.assertEqual(point_cost(problem, point), (plan_cost(problem, plan), 1))

    def test_marks_and_stocks_count(self):
        self.assertEqual(point_cost(TWO, HALF), (7, 1))
        self.assertEqual(point_cost(TWO, THIN), (25, 4))
        self.assertEqual(point_cost(ONE, (((3, 1),), ((1, 1),))), (11, 1))
        # a stock below 0 costs less than none
        self.assertEqual(point_cost(((1, 1), (0, 0), (0, 0), (4, 9)), (((0, 1), (2, 1)), ((1, 1), (1, 1)))), (-4, 1))

    def test_wrong_values(self):
        self.assert_positive_checked(point_cost, FINE_POINT)
        for value, index in bad_points():
            self.assert_raised(BadPoint, {"index": index}, point_cost, SMALL, value)
        self.assertIs(type(point_cost(SMALL, FINE_POINT)), tuple)


class Gap(Case):
    def test_definition(self):
        for problem, point in some_points(52, 60, 5):
            for row in all_rows(len(problem[0])):
                self.assertEqual(row_gap(problem, point, row), told(gap(problem, point, row)))

    def test_example(self):
        self.assertEqual(row_gap(TWO, THIN, (1, (1,))), (-1, 4))
        self.assertEqual([row_gap(TWO, THIN, row) for row in ((0, ()), (0, (0,)), (1, ()), (1, (0,)), (1, (0, 1)))],
                         [(1, 2), (0, 1), (0, 1), (1, 2), (1, 4)])

    def test_wrong_rows(self):
        fine = [(0, ()), (0, (0,)), (2, ()), (2, (0, 1, 2)), (1, (1,))]
        for row in fine:
            self.assertIs(type(row_gap(SMALL, FINE_POINT, row)), tuple)
        wrong = [value for value in ODD_VALUES] + [
            (3, ()), (-1, ()), (True, ()), (False, ()), (None, ()), ("1", ()), ((), ()), ([], ()), ({}, ()),
            (1, (2,)), (0, (1,)), (2, (3,)), (2, (-1,)), (2, (1, 1)), (2, (1, 0)), (2, (True,)), (2, (0, True)),
            (2, (False,)), (2, [0]), (2, []), (2, None), (2, 0), (2, "0"), (2, {}), (2, {0: 1}), (2, ("0",)),
            (2, (None,)), (2, ((0,),)), (2,), (2, (0,), ()), [2, (0,)], (12, ())]
        for value in wrong:
            self.assert_raised(BadRow, {}, row_gap, SMALL, FINE_POINT, value)

    def test_wrong_values(self):
        self.assert_positive_checked(row_gap, FINE_POINT, (1, (1,)))
        for value, index in bad_points():
            self.assert_raised(BadPoint, {"index": index}, row_gap, SMALL, value, (1, (1,)))
            self.assert_raised(BadPoint, {"index": index}, row_gap, SMALL, value, None)

    def test_order_of_errors(self):
        bad = ((0, 1), (1, 1), (1, 1), (1, -1))
        self.assert_raised(BadProblem, {"part": 3, "index": 1}, row_gap, bad, None, None)
        zero = ((1, 0), (1, 1), (1, 1), (1, 1))
        self.assert_raised(NotPositive, {"index": 1}, row_gap, zero, None, None)
        self.assert_raised(BadPoint, {"index": None}, row_gap, TWO, None, None)
        self.assert_raised(BadRow, {}, row_gap, TWO, HALF, None)


class Broken(Case):
    def test_example(self):
        self.assertEqual([broken_row(TWO, HALF), broken_row(TWO, THIN)], [None, (1, (1,))])

    def test_definition(self):
        seen = set()
        for problem, point in some_points(53, 150, 6):
            low = [row for row in all_rows(len(problem[0])) if gap(problem, point, row) < 0]
            expected = None
            if low:
                last = min(row[0] for row in low)
                amounts, marks = [[read_ratio(value) for value in part] for part in point]
                expected = (last, tuple(period for period in range(last + 1) if
                                        marks[period] * sum(problem[0][period:last + 1]) < amounts[period]))
            self.assertEqual(broken_row(problem, point), expected)
            if low:
                self.assertLess(row_gap(problem, point, expected), (0, 1))
                self.assertLess(gap(problem, point, expected), 0)
            seen.add(expected)
        self.assertIn(None, seen)
        self.assertGreater(len(seen), 8)

    def test_plans_break_no_row(self):
        for problem in (SMALL, TWO, ONE, ((1, 2, 1), (7, 1, 5), (1, 2, 0), (0, 3, 9))):
            for plan in all_plans(problem):
                marks = [int(amount > 0) for amount in plan]
                self.assertIsNone(broken_row(problem, point_of(plan, marks)))
                for row in all_rows(len(plan)):
                    self.assertGreaterEqual(gap(problem, point_of(plan, marks), row), 0)
                    self.assertGreaterEqual(row_gap(problem, point_of(plan, marks), row)[0], 0)
                for place in range(1, len(plan)):
                    if plan[place]:
                        less = marks[:place] + [0] + marks[place + 1:]
                        self.assertIsNotNone(broken_row(problem, point_of(plan, less)))

    def test_equal_ones_are_amounts(self):
        # the mark times the demand is just the amount of the first period, which is therefore not in the row
        problem = ((2, 2), (1, 1), (0, 0), (0, 0))
        self.assertEqual(broken_row(problem, point_of((2, 2), (1, 0))), (1, (1,)))
        self.assertEqual(broken_row(problem, point_of((1, 3), (1, 1))), (0, ()))
        self.assertEqual(broken_row(problem, point_of((3, 1), (1, 0))), (1, (1,)))
        self.assertIsNone(broken_row(problem, point_of((3, 1), (1, Fraction(1, 2)))))
        self.assertIsNone(broken_row(ONE, (((3, 1),), ((1, 1),))))

    def test_twelve_periods(self):
        source = random.Random(6)
        for problem in positive_problems(54, 10, 12, 12):
            self.assertIsNone(broken_row(problem, mixed_point(problem, source)))
            point = wild_point(problem, source)
            row = broken_row(problem, point)
            if row is not None:
                self.assertLess(gap(problem, point, row), 0)

    def test_wrong_values(self):
        self.assert_positive_checked(broken_row, FINE_POINT)
        for value, index in bad_points():
            self.assert_raised(BadPoint, {"index": index}, broken_row, SMALL, value)


def least_of_rows(problem, rows):
    """The least cost of points that break none of the rows, by the simplex method."""
    demands, setups = problem[0], problem[1]
    many = len(demands)
    every = [kept(problem, period, many) for period in range(many)]
    fixed = setups[0] - sum(demand * sum(problem[3][period:]) for period, demand in enumerate(demands))
    at_least = []
    for last, places in rows:
        factors = [0] * (2 * many)
        goal = sum(demands[:last + 1])
        for period in range(last + 1):
            if period not in places:
                factors[period] = 1
            elif period == 0:
                goal -= goal
            else:
                factors[many + period] = sum(demands[period:last + 1])
        at_least.append((factors, goal))
    for period in range(1, many):
        factors = [0] * (2 * many)
        factors[many + period] = -1
        at_least.append((factors, -1))
    equal = [([1] * many + [0] * many, sum(demands))]
    return fixed + least_value(every + [0] + list(setups[1:]), at_least, equal)


class ByRows(Case):
    def assert_fine(self, problem):
        answer = by_rows(problem)
        self.assertIs(type(answer), tuple)
        cost, point, rows = answer
        self.assertEqual(cost, (least_of(problem), 1))
        self.assertEqual(point_cost(problem, point), cost)
        self.assertEqual(paid(problem, point), least_of(problem))
        self.assertIsNone(broken_row(problem, point))
        self.assertIs(type(rows), tuple)
        self.assertEqual(list(rows), sorted(set(rows)))
        for row in rows:
            self.assertIs(type(row_gap(problem, point, row)), tuple)
        self.assertEqual(least_of_rows(problem, rows), least_of(problem), (problem, rows))
        return point, rows

    def test_example(self):
        self.assertEqual(by_rows(TWO)[0], (6, 1))

    def test_small_problems(self):
        for problem in POSITIVE_EDGES + positive_problems(55, 120, 5):
            point, rows = self.assert_fine(problem)
            self.assertFalse(breaks_some(problem, point))
            self.assertTrue(set(rows) <= set(all_rows(len(problem[0]))))

    def test_all_costs_of_two_periods(self):
        for costs in itertools.product((0, 1, 4), (0, 3), (0, 2), (0, 1), (0, 5), (0, 1)):
            self.assert_fine(((1, 2), costs[:2], costs[2:4], costs[4:]))

    def test_twelve_periods(self):
        for problem in positive_problems(56, 3, 12, 12):
            self.assert_fine(problem)

    def test_wrong_problems(self):
        self.assert_positive_checked(by_rows)


if __name__ == "__main__":
    unittest.main()
