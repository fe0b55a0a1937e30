"""Points 6 and 13: last starts, and what holds at steady costs."""

import itertools
import random
import unittest
from fractions import Fraction

from lotplans.errors import BadProblem, NotSteady, TooMany
from lotplans.horizons import by_stock_rows, firm, is_steady, joined, last_starts
from tests.helpers import (
    EDGES, FAR, NOTHING, ONE, SMALL, Case, bad_problems, interval_plans, least_of, part_of, plan_cost,
    random_problems, read_ratio, start_list, told,
)
from tests.lp import least_value

UNSTEADY = ((2, 3, 4), (10, 10, 10), (0, 2, 4), (1, 1, 1))


def least_ones(problem):
    """All interval plans with the least cost, ascending."""
    plans = interval_plans(problem)
    costs = [plan_cost(problem, plan) for plan in plans]
    return [plan for plan, cost in zip(plans, costs) if cost == min(costs)]


def ends_of(problem):
    """last_starts, by its words."""
    found = []
    for many in range(1, len(problem[0]) + 1):
        part = part_of(problem, 0, many)
        found.append(tuple(sorted({start_list(plan)[-1] for plan in least_ones(part) if any(plan)})))
    return tuple(found)


def firm_of(problem):
    """firm, by its words."""
    last = max(ends_of(problem)[-1], default=0)
    plans = [least_ones(part_of(problem, 0, many))[0] for many in range(max(last, 1), len(problem[0]) + 1)]
    found = ()
    for amount in range(last):
        if any(plan[amount] != plans[0][amount] for plan in plans):
            break
        found += (plans[0][amount],)
    return found


def steady_of(problem, source):
    """A problem like the one told, with unit costs that are steady, at their edge here and there."""
    units = [problem[2][0]]
    for holding in problem[3][:-1]:
        most = min(units[-1] + holding, 999)
        units.append(source.choice([most, source.randint(0, most)]))
    return problem[:2] + (tuple(units), problem[3])


def steady_problems(seed, times, longest, shortest=1):
    source = random.Random(seed)
    return [steady_of(problem, source) for problem in random_problems(seed, times, longest, shortest)]


def first_unsteady(problem):
    units, holdings = problem[2], problem[3]
    for period in range(len(units) - 1):
        if units[period] + holdings[period] < units[period + 1]:
            return period
    return None


STEADY_EDGES = [problem for problem in EDGES if first_unsteady(problem) is None]


class LastStarts(Case):
    def test_example(self):
        self.assertEqual([last_starts(FAR), firm(FAR)], [((0,), (0,), (2,)), (6, 0)])

    def test_against_all_interval_plans(self):
        ties = 0
        for problem in EDGES[:7] + EDGES[11:] + random_problems(121, 300, 7):
            answer = last_starts(problem)
            self.assertEqual(answer, ends_of(problem))
            self.assertEqual({type(row) for row in answer}, {tuple})
            ties += any(len(row) > 1 for row in answer)
        self.assertGreater(ties, 20)

    def test_twelve_periods(self):
        for problem in [EDGES[7], EDGES[10]] + random_problems(122, 3, 12, 12):
            self.assertEqual(last_starts(problem), ends_of(problem))

    def test_nothing_demanded(self):
        self.assertEqual(last_starts(NOTHING), ((), (), ()))
        self.assertEqual(last_starts(((0,), (0,), (0,), (0,))), ((),))
        self.assertEqual(last_starts(((0, 0, 4), (1, 1, 9), (0, 0, 0), (1, 0, 5))), ((), (), (1,)))
        self.assertEqual(last_starts(((4, 0, 0), (9, 1, 1), (3, 0, 0), (1, 1, 1))), ((0,), (0,), (0,)))

    def test_ties(self):
        self.assertEqual(last_starts(((1, 1), (1, 1), (0, 0), (1, 1))), ((0,), (0, 1)))
        self.assertEqual(last_starts(((1,) * 4, (0,) * 4, (0,) * 4, (0,) * 4)), ((0,), (0, 1), (0, 1, 2), (0, 1, 2, 3)))
        self.assertEqual(last_starts(((0, 3), (2, 2), (1, 1), (0, 0))), ((), (0, 1)))
        # a start with a setup of 0 that would make nothing is none
        self.assertEqual(last_starts(((3, 0), (2, 0), (1, 0), (0, 0))), ((0,), (0,)))

    def test_wrong_problems(self):
        self.assert_problem_checked(last_starts)


class Steady(Case):
    def test_edge(self):
        for unit, holding, following, steady in ((3, 2, 5, True), (3, 2, 6, False), (0, 0, 0, True), (0, 0, 1, False),
                                                 (999, 0, 999, True), (5, 0, 1, True), (998, 0, 999, False)):
            problem = ((1, 1, 1), (1, 1, 1), (0, unit, following), (unit, holding, 0))
            self.assertIs(is_steady(problem), steady)
            problem = ((1, 1), (1, 1), (unit, following), (holding, 0))
            self.assertIs(is_steady(problem), steady)

    def test_definition(self):
        seen = set()
        for problem in EDGES + random_problems(123, 150, 12) + steady_problems(124, 100, 12):
            answer = is_steady(problem)
            self.assertIs(answer, first_unsteady(problem) is None)
            seen.add(answer)
        self.assertEqual(seen, {True, False})

    def test_the_last_period_has_no_next_one(self):
        self.assertIs(is_steady(ONE), True)
        self.assertIs(is_steady(((1, 1), (1, 1), (9, 0), (0, 0))), True)
        self.assertIs(is_steady(((1, 1), (1, 1), (0, 9), (0, 99))), False)
        self.assertIs(is_steady(UNSTEADY), False)

    def test_wrong_problems(self):
        self.assert_problem_checked(is_steady)

    def test_not_steady_tells_the_first_period(self):
        for call in (firm, by_stock_rows):
            self.assert_raised(NotSteady, {"index": 0}, call, UNSTEADY)
            self.assert_raised(NotSteady, {"index": 1}, call, ((1,) * 4, (1,) * 4, (0, 1, 3, 9), (1, 1, 1, 1)))
            self.assert_raised(NotSteady, {"index": 2}, call, ((1,) * 4, (1,) * 4, (9, 1, 0, 9), (1, 1, 1, 1)))
            for problem in random_problems(125, 100, 12):
                index = first_unsteady(problem)
                if index is None:
                    call(problem)
                else:
                    self.assert_raised(NotSteady, {"index": index}, call, problem)

    def test_bad_problem_is_ahead_of_not_steady(self):
        bad = (UNSTEADY[0], UNSTEADY[1], UNSTEADY[2], (1, 1, None))
        for call in (firm, by_stock_rows):
            self.assert_raised(BadProblem, {"part": 3, "index": 2}, call, bad)
            self.assert_problem_checked(call)


class Firm(Case):
    def test_against_its_words(self):
        seen = set()
        for problem in STEADY_EDGES[:6] + steady_problems(126, 300, 7):
            answer = firm(problem)
            self.assertIs(type(answer), tuple)
            self.assertEqual(answer, firm_of(problem))
            seen.add(len(answer))
        self.assertEqual(seen, set(range(7)))

    def test_step_by_step(self):
        # the last start is 2; the least plans of two and of three periods begin alike
        self.assertEqual(last_starts(FAR)[-1], (2,))
        self.assertEqual([least_ones(part_of(FAR, 0, many)) for many in (2, 3)], [[(6, 0)], [(6, 0, 9)]])
        self.assertEqual(firm(FAR), (6, 0))
        # the greatest one of two last starts is taken
        tie = ((1, 1), (1, 1), (0, 0), (1, 1))
        self.assertEqual([last_starts(tie)[-1], firm(tie)], [(0, 1), (1,)])
        self.assertEqual(firm(((3, 1, 1, 4), (4, 4, 4, 4), (0, 0, 0, 0), (1, 1, 1, 1))), (5, 0, 0))

    def test_rows_that_end_ahead_of_the_last_start(self):
        lengths = set()
        for problem in steady_problems(127, 400, 6, 3):
            last = max(ends_of(problem)[-1], default=0)
            if len(firm(problem)) < last:
                lengths.add(len(firm(problem)))
        self.assertTrue(lengths >= {0, 1}, lengths)

    def test_no_start_behind_the_first_period(self):
        self.assertEqual(firm(NOTHING), ())
        self.assertEqual(firm(ONE), ())
        self.assertEqual(firm(((0,), (1,), (1,), (1,))), ())
        self.assertEqual(firm(SMALL), ())
        self.assertEqual(firm(((0, 5), (4, 4), (0, 0), (1, 1))), (0,))

    def test_longer_problems_that_begin_with_it(self):
        source = random.Random(29)
        told_some = 0
        for problem in steady_problems(128, 250, 8, 2):
            many = source.randint(1, len(problem[0]) - 1)
            first = firm(part_of(problem, 0, many))
            self.assertTrue(any(plan[:len(first)] == first for plan in least_ones(problem)), problem)
            told_some += len(first) > 0
        self.assertGreater(told_some, 30)

    def test_twelve_periods(self):
        for problem in [EDGES[7], EDGES[10]] + steady_problems(129, 2, 12, 12):
            self.assertEqual(firm(problem), firm_of(problem))


class Joined(Case):
    def test_rows_behind_rows(self):
        self.assertEqual(joined(SMALL, ONE), ((2, 3, 4, 3), (10, 10, 10, 5), (0, 0, 0, 2), (1, 1, 1, 1)))
        self.assertEqual(joined(ONE, SMALL), ((3, 2, 3, 4), (5, 10, 10, 10), (2, 0, 0, 0), (1, 1, 1, 1)))
        for one, other in zip(random_problems(130, 60, 6), random_problems(131, 60, 6)):
            whole = joined(one, other)
            self.assertEqual(part_of(whole, 0, len(one[0])), one)
            self.assertEqual(part_of(whole, len(one[0]), 12), other)
            self.assertEqual([len(row) for row in whole], [len(one[0]) + len(other[0])] * 4)

    def test_problems_need_not_be_steady(self):
        self.assertEqual(joined(UNSTEADY, ONE), tuple(one + other for one, other in zip(UNSTEADY, ONE)))
        self.assertEqual(joined(ONE, UNSTEADY), tuple(one + other for one, other in zip(ONE, UNSTEADY)))

    def test_twelve_and_thirteen(self):
        for many in range(1, 13):
            one = ((1,) * many,) * 4
            for more in range(1, 13):
                other = ((2,) * more,) * 4
                if many + more <= 12:
                    self.assertEqual(joined(one, other), ((1,) * many + (2,) * more,) * 4)
                else:
                    self.assert_raised(TooMany, {"most": 12}, joined, one, other)

    def test_wrong_problems(self):
        self.assert_problem_checked(joined, SMALL)
        for value, part, index in bad_problems():
            self.assert_raised(BadProblem, {"part": part, "index": index}, joined, SMALL, value)
            # ahead of TooMany
            self.assert_raised(BadProblem, {"part": part, "index": index}, joined, ((1,) * 12,) * 4, value)

    def test_the_first_bad_problem_is_told(self):
        one, other = ((1, -1), (1, 1), (1, 1), (1, 1)), ((1,), (1,), (1,), (-1,))
        self.assert_raised(BadProblem, {"part": 0, "index": 1}, joined, one, other)
        self.assert_raised(BadProblem, {"part": 3, "index": 0}, joined, other, one)
        self.assert_raised(BadProblem, {"part": 3, "index": 0}, joined, SMALL, other)
        long = ((1,) * 12,) * 3 + ((1,) * 11 + (-1,),)
        self.assert_raised(BadProblem, {"part": 3, "index": 11}, joined, long, None)
        self.assert_raised(BadProblem, {"part": 3, "index": 11}, joined, ((1,) * 12,) * 4, long)


def stock_gap(problem, stocks, marks, first, last):
    """What a stock and marks are above the demands of the periods from first to last, by the words of point 13."""
    demands = problem[0]
    ahead = stocks[first - 1] if first > 0 else 0
    covered = sum(marks[period] * sum(demands[period:last + 1]) for period in range(first, last + 1))
    return ahead + covered - sum(demands[first:last + 1])


def pair_cost(problem, stocks, marks):
    """What the amounts that lead to the stocks cost, and the marks at their setups, as a fraction."""
    demands, setups, units, holdings = problem
    total, ahead = Fraction(0), Fraction(0)
    for period in range(len(demands)):
        amount = stocks[period] + demands[period] - ahead
        total += units[period] * amount + holdings[period] * stocks[period] + setups[period] * marks[period]
        ahead = stocks[period]
    return total


def least_of_stock_rows(problem):
    """The least cost of stocks and marks that keep all rows, by the simplex method."""
    demands, setups, units, holdings = problem
    many = len(demands)
    following = list(units[1:]) + [0]
    costs = [units[k] + holdings[k] - following[k] for k in range(many)] + list(setups)
    at_least = []
    for first in range(many):
        for last in range(first, many):
            factors = [0] * (2 * many)
            if first > 0:
                factors[first - 1] = 1
            for period in range(first, last + 1):
                factors[many + period] = sum(demands[period:last + 1])
            at_least.append((factors, sum(demands[first:last + 1])))
    for period in range(many):
        at_least.append(([-int(k == many + period) for k in range(2 * many)], -1))
    last_stock = ([int(k == many - 1) for k in range(2 * many)], 0)
    return sum(unit * demand for unit, demand in zip(units, demands)) + least_value(costs, at_least, [last_stock])


class StockRows(Case):
    def assert_fine(self, problem):
        answer = by_stock_rows(problem)
        self.assertIs(type(answer), tuple)
        cost, stocks, marks = answer
        many = len(problem[0])
        self.assertEqual([(type(row), len(row)) for row in (stocks, marks)], [(tuple, many)] * 2)
        for thing in (cost,) + stocks + marks:
            self.assertEqual(told(read_ratio(thing)), thing)
        levels, shares = [read_ratio(thing) for thing in stocks], [read_ratio(thing) for thing in marks]
        self.assertTrue(min(levels) >= 0 and levels[-1] == 0 and min(shares) >= 0 and max(shares) <= 1)
        for first in range(many):
            for last in range(first, many):
                self.assertGreaterEqual(stock_gap(problem, levels, shares, first, last), 0)
        self.assertEqual(cost, (least_of(problem), 1))
        self.assertEqual(pair_cost(problem, levels, shares), least_of(problem))

    def test_cost_and_rows(self):
        for problem in STEADY_EDGES + steady_problems(132, 200, 7) + steady_problems(133, 4, 12, 12):
            self.assert_fine(problem)

    def test_nothing_costs_less(self):
        for problem in STEADY_EDGES[:6] + steady_problems(134, 60, 5):
            self.assertEqual(least_of_stock_rows(problem), least_of(problem))
            self.assertEqual(by_stock_rows(problem)[0], (least_of(problem), 1))

    def test_all_costs_of_two_periods(self):
        for costs in itertools.product((1, 4), (0, 3), (0, 2), (0, 1), (0, 5), (0, 1)):
            problem = ((1, 2), costs[:2], costs[2:4], costs[4:])
            if first_unsteady(problem) is None:
                self.assert_fine(problem)
                self.assertEqual(least_of_stock_rows(problem), least_of(problem))

    def test_every_row_of_two_periods(self):
        for problem in (((2, 3), (5, 5), (1, 1), (1, 1)), ((2, 3), (5, 1), (1, 1), (1, 1)),
                        ((0, 3), (5, 1), (1, 1), (1, 1)), ((2, 0), (5, 1), (1, 1), (1, 1)),
                        ((2, 3), (9, 9), (0, 0), (1, 0)), ((2, 3), (0, 0), (4, 4), (0, 0))):
            one, other = problem[0]
            (cost, stocks, marks) = by_stock_rows(problem)
            stock = read_ratio(stocks[0])
            first, second = [read_ratio(mark) for mark in marks]
            self.assertGreaterEqual(first * one, one)
            self.assertGreaterEqual(first * (one + other) + second * other, one + other)
            self.assertGreaterEqual(stock + second * other, other)
            self.assertEqual(stocks[1], (0, 1))
            paid = problem[2][0] * (one + stock) + problem[2][1] * (other - stock) + problem[3][0] * stock
            self.assertEqual(paid + problem[1][0] * first + problem[1][1] * second, read_ratio(cost))

    def test_example_by_hand(self):
        self.assertEqual(by_stock_rows(FAR), ((10, 1), ((1, 1), (0, 1), (0, 1)), ((1, 1), (0, 1), (1, 1))))
        self.assertEqual(by_stock_rows(ONE), ((11, 1), ((0, 1),), ((1, 1),)))
        self.assertEqual(by_stock_rows(NOTHING)[0], (0, 1))


if __name__ == "__main__":
    unittest.main()
