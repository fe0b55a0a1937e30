"""Points 2 and 3: problems and plans."""

import itertools
import random
import unittest

from lotplans.errors import BadPeriod, BadPlan, BadProblem, BadStarts
from lotplans.problems import cost, improved, is_interval, is_plan, kept_cost, plan_of, starts, stocks
from tests.helpers import (
    EDGES, NOTHING, ODD_VALUES, ONE, SMALL, Case, all_plans, interval_plans, kept, plan_cost, random_problems,
    some_plans, start_list, stock_list,
)


def moved_plan(problem, plan):
    """improved, by its words."""
    amounts = [0] * len(plan)
    for goal, demand in enumerate(problem[0]):
        if demand:
            able = [start for start in start_list(plan) if start <= goal]
            least = min(kept(problem, start, goal) for start in able)
            amounts[max(start for start in able if kept(problem, start, goal) == least)] += demand
    return tuple(amounts)


class Examples(Case):
    def test_example(self):
        told = [stocks(SMALL, (4, 1, 4)), cost(SMALL, (4, 1, 4)), improved(SMALL, (4, 1, 4)), plan_of(SMALL, (0, 2))]
        self.assertEqual(told, [(2, 0, 0), 32, (2, 3, 4), (5, 0, 4)])

    def test_error(self):
        self.assert_raised(BadPlan, {"index": 3}, cost, SMALL, (4, 1, 5))


class KeptCost(Case):
    def test_definition(self):
        for problem in EDGES + random_problems(1, 60, 12):
            many = len(problem[0])
            for start in range(many):
                for goal in range(start, many):
                    self.assertEqual(kept_cost(problem, start, goal), kept(problem, start, goal))

    def test_holding_of_the_goal_is_not_paid(self):
        problem = ((0, 0, 0), (0, 0, 0), (5, 6, 7), (10, 100, 900))
        self.assertEqual([kept_cost(problem, 0, goal) for goal in range(3)], [5, 15, 115])
        self.assertEqual(kept_cost(problem, 2, 2), 7)

    def test_wrong_periods(self):
        for value in (-1, 3, 4, True, False, None, "1", (), (1,), [1], {}, {1: 1}, 10 ** 30):
            self.assert_raised(BadPeriod, {}, kept_cost, SMALL, value, 2)
            self.assert_raised(BadPeriod, {}, kept_cost, SMALL, 0, value)
            self.assert_raised(BadPeriod, {}, kept_cost, SMALL, value, value)
        self.assert_raised(BadPeriod, {}, kept_cost, SMALL, 1, 0)
        self.assert_raised(BadPeriod, {}, kept_cost, SMALL, 2, 1)
        self.assert_raised(BadPeriod, {}, kept_cost, ONE, 0, 1)

    def test_wrong_problems(self):
        self.assert_problem_checked(kept_cost, 0, 0)


class Plans(Case):
    def test_is_plan_of_all_small_tuples(self):
        for problem in (SMALL, ((1, 0, 2), (1, 1, 1), (0, 0, 0), (0, 0, 0)), NOTHING, ((0, 2), (1, 1), (2, 2), (3, 3))):
            fine = set(all_plans(problem))
            for value in itertools.product(range(-1, sum(problem[0]) + 2), repeat=len(problem[0])):
                self.assertIs(is_plan(problem, value), value in fine)
                if value not in fine:
                    self.assert_plan_fault(problem, value)

    def assert_plan_fault(self, problem, value):
        levels = stock_list(problem, value)
        short = [period for period, level in enumerate(levels) if level < 0]
        index = None if min(value) < 0 else short[0] if short else len(value)
        for call in (is_interval, stocks, starts, cost, improved):
            self.assert_raised(BadPlan, {"index": index}, call, problem, value)

    def test_is_plan_of_odd_values(self):
        for value in ODD_VALUES + [(2, 3), (2, 3, 4, 0), [2, 3, 4], (2, 3, True), (2, 3, None), (2, 3, "4"), (2, 3, (4,))]:
            self.assertIs(is_plan(SMALL, value), False)
            for call in (is_interval, stocks, starts, cost, improved):
                self.assert_raised(BadPlan, {"index": None}, call, SMALL, value)
        self.assertIs(is_plan(SMALL, (2, 3, 4)), True)
        self.assertIs(is_plan(((1,), (1,), (1,), (1,)), (True,)), False)
        self.assertIs(is_plan(((0,), (1,), (1,), (1,)), (False,)), False)
        self.assertIs(is_plan(((0,), (1,), (1,), (1,)), (0,)), True)

    def test_faults_in_their_order(self):
        for value, index in (((1, 4, 4), 0), ((2, 2, 5), 1), ((2, 3, 3), 2), ((3, 3, 4), 3), ((2, 3, 5), 3),
                             ((1, 4, -4), None), ((0, 0, 0), 0), ((10 ** 30, 0, 0), 3)):
            for call in (is_interval, stocks, starts, cost, improved):
                self.assert_raised(BadPlan, {"index": index}, call, SMALL, value)

    def test_wrong_problems(self):
        for call in (is_plan, is_interval, stocks, starts, cost, improved):
            self.assert_problem_checked(call, (2, 3, 4))

    def test_stocks_starts_and_cost(self):
        source = random.Random(5)
        for problem in EDGES + random_problems(2, 80, 12):
            for plan in some_plans(problem, source):
                self.assertIs(is_plan(problem, plan), True)
                self.assertEqual(stocks(problem, plan), tuple(stock_list(problem, plan)))
                self.assertEqual(starts(problem, plan), tuple(start_list(plan)))
                self.assertEqual(cost(problem, plan), plan_cost(problem, plan))

    def test_each_cost_counts(self):
        problem = ((1, 2, 3), (100, 0, 200), (10, 20, 30), (1, 2, 900))
        self.assertEqual(cost(problem, (4, 0, 2)), 100 + 200 + 40 + 60 + 3 * 1 + 1 * 2)
        self.assertEqual(cost(NOTHING, (0, 0, 0)), 0)
        self.assertEqual(cost(ONE, (3,)), 11)

    def test_is_interval(self):
        for problem in (SMALL, ((1, 0, 2), (1, 1, 1), (0, 0, 0), (0, 0, 0)), ((0, 2, 0, 1),) + ((1,) * 4,) * 3):
            fine = set(interval_plans(problem))
            for plan in all_plans(problem):
                self.assertIs(is_interval(problem, plan), plan in fine)

    def test_is_interval_at_its_edges(self):
        problem = ((1, 0, 2), (1, 1, 1), (0, 0, 0), (0, 0, 0))
        self.assertIs(is_interval(problem, (1, 2, 0)), True)
        self.assertIs(is_interval(problem, (3, 0, 0)), True)
        self.assertIs(is_interval(problem, (2, 1, 0)), False)
        self.assertIs(is_interval(problem, (2, 0, 1)), False)
        self.assertIs(is_interval(NOTHING, (0, 0, 0)), True)
        self.assertIs(is_interval(ONE, (3,)), True)


class PlanOf(Case):
    def test_definition(self):
        for problem in EDGES + random_problems(3, 60, 7):
            demands = problem[0]
            many = len(demands)
            places = list(itertools.chain.from_iterable(itertools.combinations(range(many), size)
                                                        for size in range(many + 1)))
            for periods in places[:300]:
                ahead = demands[:periods[0]] if periods else demands
                if sum(ahead):
                    self.assert_raised(BadStarts, {}, plan_of, problem, periods)
                    continue
                told = [0] * many
                for period in range(many):
                    able = [start for start in periods if start <= period]
                    if able:
                        told[max(able)] += demands[period]
                self.assertEqual(plan_of(problem, periods), tuple(told))

    def test_edges(self):
        self.assertEqual(plan_of(NOTHING, ()), (0, 0, 0))
        self.assertEqual(plan_of(NOTHING, (1, 2)), (0, 0, 0))
        self.assertEqual(plan_of(((0, 3), (1, 1), (1, 1), (1, 1)), (1,)), (0, 3))
        self.assertEqual(plan_of(((4,) * 12,) + ((1,) * 12,) * 3, tuple(range(12))), (4,) * 12)

    def test_wrong_starts(self):
        fine = [(0,), (0, 1), ()]
        for value in [odd for odd in ODD_VALUES if odd not in fine] + [
                (0, 0), (1, 0), (0, 2, 1), (0, 3), (-1, 0), (0, 1, 1), (0, True), (False, 1), (0, None), (0, "1"),
                [0], [0, 1], {0: 1}, "0", (0, (1,)), (1,), (1, 2), (2,), ()]:
            self.assert_raised(BadStarts, {}, plan_of, SMALL, value)
        for value in (False, True, (False,), [], None, (3,), (0, 3), {}):
            self.assert_raised(BadStarts, {}, plan_of, NOTHING, value)

    def test_wrong_problems(self):
        self.assert_problem_checked(plan_of, (0, 2))


class Improved(Case):
    def test_definition(self):
        source = random.Random(7)
        for problem in EDGES + random_problems(4, 120, 12):
            for plan in some_plans(problem, source):
                told = improved(problem, plan)
                self.assertEqual(told, moved_plan(problem, plan))
                self.assertIs(is_interval(problem, told), True)
                self.assertLessEqual(cost(problem, told), cost(problem, plan))

    def test_all_plans_of_small_problems(self):
        for problem in (((2, 1, 2), (3, 1, 2), (1, 0, 1), (1, 0, 1)), ((1, 0, 2), (1, 1, 1), (0, 0, 0), (0, 0, 0)),
                        ((1, 2, 1), (1, 1, 1), (0, 1, 2), (1, 1, 1))):
            for plan in all_plans(problem):
                self.assertEqual(improved(problem, plan), moved_plan(problem, plan))

    def test_the_latest_one_of_equal_starts(self):
        self.assertEqual(improved(((1, 1), (0, 0), (1, 2), (1, 1)), (1, 1)), (1, 1))
        self.assertEqual(improved(((1, 1), (0, 0), (1, 3), (1, 1)), (1, 1)), (2, 0))
        self.assertEqual(improved(((2, 0, 1), (0, 0, 0), (0, 0, 0), (0, 0, 0)), (2, 1, 0)), (2, 1, 0))

    def test_arguments_are_kept(self):
        problem = ((2, 1), (1, 1), (0, 0), (1, 1))
        plan = (3, 0)
        improved(problem, plan)
        self.assertEqual((problem, plan), (((2, 1), (1, 1), (0, 0), (1, 1)), (3, 0)))


class Order(Case):
    def test_the_problem_comes_first(self):
        bad = ((1, 2), (1, 2), (1, 2), (1, -2))
        for call in (is_interval, stocks, starts, cost, improved, is_plan, plan_of):
            self.assert_raised(BadProblem, {"part": 3, "index": 1}, call, bad, (9, 9))
        self.assert_raised(BadProblem, {"part": 3, "index": 1}, kept_cost, bad, 7, -1)


if __name__ == "__main__":
    unittest.main()
