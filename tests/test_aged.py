"""Point 21: units that can be used in so many periods alone."""

import itertools
import random
import unittest

from lotplans.aged import fresh_cost, fresh_plan, is_fresh
from lotplans.errors import BadPeriod, BadPlan, BadProblem
from tests.helpers import (
    EDGES, NOTHING, ODD_VALUES, ONE, SMALL, Case, all_plans, bad_plans, great_problems, is_fine_plan, kept, least_of,
    plan_cost, random_problems, scaled, some_plans, start_list, stock_list,
)


def fresh(problem, age, plan):
    """is_fresh, by the words of point 21: batches wait in a row, and the oldest units are used first."""
    batches = []
    for period, amount in enumerate(plan):
        batches.append([period, amount])
        wanted = problem[0][period]
        while wanted:
            made, left = batches[0]
            used = min(wanted, left)
            if used and period - made >= age:
                return False
            wanted -= used
            batches[0][1] -= used
            if not batches[0][1]:
                batches.pop(0)
    return not any(left for _, left in batches)


def least_fresh(problem, age):
    """The least cost over all sets of starts, each demand being made at the cheapest start that is in time for it."""
    many = len(problem[0])
    costs = []
    for chosen in itertools.product((False, True), repeat=many):
        starts = [period for period in range(many) if chosen[period]]
        plan = [0] * many
        for goal, demand in enumerate(problem[0]):
            timely = [start for start in starts if goal - age < start <= goal]
            if demand and timely:
                plan[min(timely, key=lambda start: kept(problem, start, goal))] += demand
        if sum(plan) == sum(problem[0]):
            costs.append(plan_cost(problem, plan))
    return min(costs)


class Fresh(Case):
    def test_all_plans_of_small_problems(self):
        for problem in (((2, 1, 2), (1,) * 3, (0,) * 3, (0,) * 3), ((0, 3, 2), (1,) * 3, (0,) * 3, (0,) * 3), NOTHING,
                        ((1, 0, 1, 2), (1,) * 4, (0,) * 4, (0,) * 4), ((0, 0, 3, 0), (1,) * 4, (0,) * 4, (0,) * 4)):
            for plan in all_plans(problem):
                for age in range(1, len(plan) + 1):
                    self.assertIs(is_fresh(problem, age, plan), fresh(problem, age, plan), (problem, age, plan))

    def test_drawn_plans(self):
        source = random.Random(91)
        seen = {True: 0, False: 0}
        for problem in random_problems(201, 80, 12):
            for plan in some_plans(problem, source):
                age = source.randint(1, len(plan))
                answer = is_fresh(problem, age, plan)
                self.assertIs(answer, fresh(problem, age, plan))
                seen[answer] += 1
        self.assertGreater(min(seen.values()), 100)

    def test_just_fresh_and_just_not(self):
        # the unit that is made too much in period 0 is used last of those made there
        for age, plan, answer in ((1, (2, 3, 4), True), (1, (3, 2, 4), False), (2, (5, 0, 4), True),
                                  (2, (6, 0, 3), False), (2, (5, 4, 0), True), (2, (4, 5, 0), True),
                                  (3, (9, 0, 0), True), (2, (9, 0, 0), False)):
            self.assertIs(is_fresh(SMALL, age, plan), answer, (age, plan))
        problem = ((1, 0, 0, 5, 0, 2), (1,) * 6, (0,) * 6, (0,) * 6)
        for age, plan, answer in ((4, (6, 0, 0, 0, 2, 0), True), (3, (6, 0, 0, 0, 2, 0), False),
                                  (3, (1, 5, 0, 2, 0, 0), True), (2, (1, 5, 0, 2, 0, 0), False),
                                  (2, (1, 0, 5, 0, 2, 0), True), (1, (1, 0, 5, 0, 2, 0), False),
                                  (6, (8, 0, 0, 0, 0, 0), True), (5, (8, 0, 0, 0, 0, 0), False)):
            self.assertIs(is_fresh(problem, age, plan), answer, (age, plan))

    def test_a_later_start_does_not_keep_old_units_back(self):
        # the 3 units of period 0 that are left are used ahead of those of period 1, and none gets old
        problem = ((1, 3, 3), (1,) * 3, (0,) * 3, (0,) * 3)
        self.assertIs(is_fresh(problem, 2, (4, 3, 0)), True)
        # of 4 units that are left one must wait until period 2
        self.assertIs(is_fresh(problem, 2, (5, 2, 0)), False)

    def test_ages_of_1_and_of_all_periods(self):
        source = random.Random(92)
        for problem in EDGES + random_problems(202, 40, 8):
            many = len(problem[0])
            for plan in some_plans(problem, source):
                self.assertIs(is_fresh(problem, 1, plan), plan == problem[0])
                self.assertIs(is_fresh(problem, many, plan), True)

    def test_wrong_values(self):
        self.assert_problem_checked(is_fresh, 1, (2, 3, 4))
        for age in bad_ages(3):
            for plan in ((2, 3, 4), (2, 3, 5), None):
                self.assert_raised(BadPeriod, {}, is_fresh, SMALL, age, plan)
        for plan, index in bad_plans():
            for age in (1, 2, 3):
                self.assert_raised(BadPlan, {"index": index}, is_fresh, SMALL, age, plan)

    def test_order_of_errors(self):
        self.assert_raised(BadProblem, {"part": 3, "index": 0}, is_fresh, ((1,), (1,), (1,), (-1,)), None, None)
        self.assert_raised(BadPeriod, {}, is_fresh, ONE, 2, (4,))
        self.assert_raised(BadPlan, {"index": 1}, is_fresh, ONE, 1, (4,))


def bad_ages(many):
    """Values that are not ages of a problem with so many periods."""
    fine = list(range(1, many + 1))
    odd = [value for value in ODD_VALUES if not (type(value) is int and value in fine)]
    return odd + [0, many + 1, -1, 10 ** 30, True, "1", (1,), [1], {1: 1}]


class Least(Case):
    def assert_least(self, problem, age, expected):
        cost, plan = fresh_cost(problem, age), fresh_plan(problem, age)
        self.assertEqual((type(cost), cost), (int, expected), (problem, age))
        self.assertIs(type(plan), tuple)
        self.assertEqual({type(amount) for amount in plan}, {int})
        self.assertTrue(is_fine_plan(problem, plan))
        self.assertTrue(fresh(problem, age, plan), (problem, age, plan))
        self.assertIs(is_fresh(problem, age, plan), True)
        self.assertEqual(plan_cost(problem, plan), expected, (problem, age, plan))

    def test_example(self):
        self.assertEqual(fresh_cost(SMALL, 2), 23)
        self.assertEqual(fresh_plan(SMALL, 2), (5, 0, 4))

    def test_against_all_plans(self):
        for problem in random_problems(203, 300, 4):
            if sum(problem[0]) <= 7:
                plans = all_plans(problem)
                for age in range(1, len(problem[0]) + 1):
                    costs = [plan_cost(problem, plan) for plan in plans if fresh(problem, age, plan)]
                    self.assert_least(problem, age, min(costs))

    def test_against_all_plans_of_five_periods(self):
        for problem in random_problems(204, 250, 5, 5):
            if sum(problem[0]) <= 4:
                plans = all_plans(problem)
                for age in (2, 3, 4):
                    costs = [plan_cost(problem, plan) for plan in plans if fresh(problem, age, plan)]
                    self.assert_least(problem, age, min(costs))

    def test_against_all_starts(self):
        tight = 0
        for problem in random_problems(205, 120, 8):
            age = 1 + sum(problem[0]) % len(problem[0])
            expected = least_fresh(problem, age)
            self.assert_least(problem, age, expected)
            tight += expected > least_of(problem)
        self.assertGreater(tight, 20)

    def test_an_age_of_1(self):
        for problem in EDGES + random_problems(206, 40, 12):
            self.assert_least(problem, 1, plan_cost(problem, problem[0]))
            self.assertEqual(fresh_plan(problem, 1), problem[0])

    def test_an_age_of_all_periods(self):
        for problem in EDGES + random_problems(207, 40, 8):
            self.assert_least(problem, len(problem[0]), least_of(problem))

    def test_a_plan_that_is_no_interval_plan(self):
        # period 0 is cheap for as long as its units last, period 1 alone has no setup to reach the last demand
        problem = ((1, 1, 1, 1), (0, 0, 99, 99), (0, 9, 0, 0), (0, 0, 0, 0))
        self.assert_least(problem, 3, 9)
        self.assertEqual(fresh_plan(problem, 3), (3, 1, 0, 0))
        self.assertEqual(stock_list(problem, (3, 1, 0, 0)), [2, 2, 1, 0])

    def test_a_demand_of_0_that_is_not_made(self):
        # demands of 0 take nothing, however long they last
        problem = ((4, 0, 0, 0, 4, 0), (9, 1, 1, 1, 9, 1), (0,) * 6, (0, 0, 0, 0, 0, 0))
        self.assert_least(problem, 1, 18)
        self.assert_least(problem, 2, 10)
        self.assert_least(problem, 5, 9)
        for age in range(1, 4):
            self.assert_least(NOTHING, age, 0)
            self.assertEqual(fresh_plan(NOTHING, age), (0, 0, 0))
        # nothing is made ahead of the first demand unless that is cheaper, and then in time
        problem = ((0, 0, 0, 2), (1, 2, 3, 4), (0,) * 4, (0,) * 4)
        for age, start in ((1, 3), (2, 2), (3, 1), (4, 0)):
            self.assert_least(problem, age, problem[1][start])
            self.assertEqual(start_list(fresh_plan(problem, age)), [start])

    def test_longer_ages_cost_no_more(self):
        for problem in random_problems(208, 20, 12, 12):
            costs = [fresh_cost(problem, age) for age in range(1, 13)]
            self.assertEqual(costs, sorted(costs, reverse=True))

    def test_great_demands(self):
        for problem in great_problems(209, 4):
            for age in (2, 3, 7, 12):
                self.assert_least(problem, age, least_fresh(problem, age))

    def test_great_demands_that_are_many_times_small_ones(self):
        for problem in random_problems(210, 8, 12, 12):
            problem = tuple(tuple(entry % 10 for entry in row) for row in problem)
            for age in (2, 5):
                self.assert_least(scaled(problem, 111), age, 111 * least_fresh(problem, age))

    def test_wrong_values(self):
        for call in (fresh_cost, fresh_plan):
            self.assert_problem_checked(call, 1)
            for problem in (SMALL, ONE, ((1,) * 12,) * 4):
                for age in bad_ages(len(problem[0])):
                    self.assert_raised(BadPeriod, {}, call, problem, age)
        self.assert_raised(BadProblem, {"part": 0, "index": 0}, fresh_cost, ((-1,), (1,), (1,), (1,)), None)


if __name__ == "__main__":
    unittest.main()
