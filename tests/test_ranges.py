"""Point 14: how far setups may change."""

import random
import unittest

from lotplans.errors import BadPeriod, BadPlan, BadProblem
from lotplans.ranges import setup_range, worth
from tests.helpers import (
    EDGES, FAR, NOTHING, ODD_VALUES, ONE, SMALL, Case, all_plans, bad_plans, interval_plans, plan_cost,
    random_problems, some_plans,
)

FAR_AWAY = 10 ** 7


class Costs:
    """The costs of all interval plans, for any setup of one period."""

    def __init__(self, problem, period):
        self.problem = problem
        self.period = period
        free = self.with_setup(0)
        self.within = [plan_cost(free, plan) for plan in interval_plans(problem) if plan[period]]
        self.without = [plan_cost(free, plan) for plan in interval_plans(problem) if not plan[period]]

    def with_setup(self, setup):
        rows = [list(row) for row in self.problem]
        rows[1][self.period] = setup
        return tuple(tuple(row) for row in rows)

    def least(self, setup):
        return min([cost + setup for cost in self.within] + self.without)

    def is_least(self, plan, setup):
        return plan_cost(self.with_setup(setup), plan) == self.least(setup)

    def has_least_within(self, setup):
        return bool(self.within) and min(self.within) + setup == self.least(setup)

    def setups(self):
        """Setups of interest: small ones, those at which plans cost the same and beside them, and one far away."""
        found = {0, 1, 2, FAR_AWAY}
        for one in self.within:
            for other in self.without:
                found |= {other - one - 1, other - one, other - one + 1}
        return sorted(setup for setup in found if setup >= 0)


class Range(Case):
    def assert_range(self, costs, plan):
        problem, period = costs.problem, costs.period
        told = setup_range(problem, plan, period)
        if told is None:
            for setup in costs.setups():
                self.assertFalse(costs.is_least(plan, setup), (problem, plan, period, setup))
            return "none"
        self.assertIs(type(told), tuple)
        least, greatest = told
        self.assertTrue(type(least) is int and least >= 0)
        self.assertTrue(costs.is_least(plan, least), (problem, plan, period))
        if least > 0:
            self.assertFalse(costs.is_least(plan, least - 1), (problem, plan, period))
        if greatest is None:
            self.assertTrue(costs.is_least(plan, FAR_AWAY), (problem, plan, period))
            return ("from 0" if least == 0 else "from more") + " on"
        self.assertTrue(type(greatest) is int and greatest >= least)
        self.assertTrue(costs.is_least(plan, greatest), (problem, plan, period))
        self.assertFalse(costs.is_least(plan, greatest + 1), (problem, plan, period))
        return "only 0" if greatest == 0 else "from 0 up" if least == 0 else "else"

    def test_example(self):
        self.assertEqual(setup_range(FAR, (6, 0, 9), 1), (2, None))

    def test_against_all_sets_of_starts(self):
        source = random.Random(31)
        seen = set()
        for problem in EDGES[:6] + EDGES[11:] + random_problems(141, 80, 5):
            for period in range(len(problem[0])):
                costs = Costs(problem, period)
                for plan in some_plans(problem, source):
                    seen.add(self.assert_range(costs, plan))
        self.assertEqual(seen, {"none", "from 0 on", "from more on", "only 0", "from 0 up"})

    def test_all_plans_of_small_problems(self):
        for problem in (((2, 1, 2), (3, 1, 2), (1, 0, 1), (1, 0, 1)), ((1, 0, 2), (1, 1, 1), (0, 0, 0), (0, 0, 0)),
                        ((0, 2, 1), (1, 4, 1), (0, 1, 2), (1, 1, 1)), ((1, 1, 1), (2, 0, 0), (0, 0, 0), (0, 0, 0)),
                        NOTHING):
            for period in range(3):
                costs = Costs(problem, period)
                for plan in all_plans(problem):
                    self.assert_range(costs, plan)

    def test_twelve_periods(self):
        source = random.Random(32)
        for problem in [EDGES[7]] + random_problems(142, 2, 12, 12):
            for period in (0, source.randrange(1, 11), 11):
                costs = Costs(problem, period)
                plans = some_plans(problem, source)[:4]
                for setup in (0, 5, 999):
                    changed = costs.with_setup(setup)
                    plans.append(min(interval_plans(problem), key=lambda plan: plan_cost(changed, plan)))
                for plan in plans:
                    self.assert_range(costs, plan)

    def test_at_both_ends(self):
        # a plan that makes something there: from 0 up to where it costs as much to go without
        problem = ((2, 3), (7, 4), (0, 0), (2, 1))
        self.assertEqual(setup_range(problem, (2, 3), 1), (0, 6))
        self.assertEqual(setup_range(problem, (5, 0), 1), (6, None))
        # whatever the first setup is, something must be made there
        self.assertEqual(setup_range(problem, (2, 3), 0), (0, None))
        self.assertIsNone(setup_range(problem, (5, 0), 0))
        # nothing can be made there
        self.assertEqual(setup_range(((2, 0), (7, 4), (0, 0), (2, 1)), (2, 0), 1), (0, None))
        self.assertEqual(setup_range(NOTHING, (0, 0, 0), 0), (0, None))
        self.assertEqual(setup_range(ONE, (3,), 0), (0, None))

    def test_setups_beyond_entries(self):
        # the setup of the second period may be greater than any entry
        problem = ((1, 999), (0, 0), (0, 0), (999, 0))
        self.assertEqual(setup_range(problem, (1, 999), 1), (0, 999 * 999))
        self.assertEqual(setup_range(problem, (1000, 0), 1), (999 * 999, None))
        self.assertEqual(worth(problem, 1), 999 * 999)

    def test_plans_that_are_no_interval_plans(self):
        problem = ((1, 2), (0, 0), (0, 0), (0, 0))
        # all costs are 0 but for the setup that changes
        self.assertEqual(setup_range(problem, (2, 1), 1), (0, 0))
        self.assertEqual(setup_range(problem, (2, 1), 0), (0, None))
        self.assertEqual(setup_range(problem, (3, 0), 1), (0, None))
        # what is made in two periods where one would do is never least
        dear = ((1, 2), (0, 0), (0, 1), (0, 0))
        self.assertIsNone(setup_range(dear, (2, 1), 1))
        self.assertEqual(setup_range(dear, (3, 0), 1), (0, None))

    def test_wrong_values(self):
        self.assert_problem_checked(setup_range, (2, 3, 4), 0)
        for value, index in bad_plans():
            for period in (0, 3, True, None):
                self.assert_raised(BadPlan, {"index": index}, setup_range, SMALL, value, period)
        for value in [odd for odd in ODD_VALUES if not (type(odd) is int and 0 <= odd < 3)] + [3, 12, "0", (2,), 1000]:
            self.assert_raised(BadPeriod, {}, setup_range, SMALL, (2, 3, 4), value)

    def test_order_of_errors(self):
        self.assert_raised(BadProblem, {"part": 0, "index": 0}, setup_range, ((-1,), (1,), (1,), (1,)), None, None)
        self.assert_raised(BadPlan, {"index": 1}, setup_range, ONE, (4,), None)
        self.assert_raised(BadPeriod, {}, setup_range, ONE, (3,), 1)


class Worth(Case):
    def assert_worth(self, problem, period):
        costs = Costs(problem, period)
        told = worth(problem, period)
        if told is None:
            self.assertTrue(costs.has_least_within(FAR_AWAY))
            self.assertTrue(all(costs.has_least_within(setup) for setup in costs.setups()))
            return "always"
        self.assertIs(type(told), int)
        if told == -1:
            self.assertFalse(any(costs.has_least_within(setup) for setup in costs.setups()), (problem, period))
            return "never"
        self.assertTrue(costs.has_least_within(told), (problem, period))
        for setup in costs.setups():
            self.assertIs(costs.has_least_within(setup), setup <= told, (problem, period, setup))
        return "at 0" if told == 0 else "at more"

    def test_example(self):
        self.assertEqual(worth(FAR, 1), 2)

    def test_against_all_sets_of_starts(self):
        seen = set()
        for problem in EDGES[:6] + EDGES[11:] + random_problems(143, 200, 6):
            for period in range(len(problem[0])):
                seen.add(self.assert_worth(problem, period))
        self.assertEqual(seen, {"always", "never", "at 0", "at more"})

    def test_twelve_periods(self):
        for problem in [EDGES[7]] + random_problems(144, 1, 12, 12):
            for period in (0, 1, 6, 11):
                self.assert_worth(problem, period)

    def test_edges(self):
        self.assertIsNone(worth(ONE, 0))
        self.assertIsNone(worth(SMALL, 0))
        self.assertEqual(worth(NOTHING, 1), -1)
        self.assertEqual(worth(((0,), (1,), (1,), (1,)), 0), -1)
        self.assertEqual(worth(((2, 0), (1, 1), (1, 1), (1, 1)), 1), -1)
        self.assertEqual(worth(((0, 2), (1, 1), (1, 1), (0, 1)), 0), 1)
        # even with a setup of 0 it costs 1, 0 and -1 less to make the second demand ahead
        for unit, told in ((2, -1), (1, 0), (0, 1)):
            self.assertEqual(worth(((1, 1), (5, 9), (1, unit), (0, 0)), 1), told)

    def test_the_setup_as_it_is_does_not_count(self):
        for setup in (0, 3, 999):
            self.assertEqual(worth(((5, 1, 9), (4, setup, 4), (0, 0, 0), (2, 2, 2)), 1), 2)
            self.assertEqual(setup_range(((5, 1, 9), (4, setup, 4), (0, 0, 0), (2, 2, 2)), (6, 0, 9), 1), (2, None))
            self.assertEqual(setup_range(((5, 1, 9), (4, setup, 4), (0, 0, 0), (2, 2, 2)), (5, 1, 9), 1), (0, 2))

    def test_wrong_values(self):
        self.assert_problem_checked(worth, 0)
        for value in [odd for odd in ODD_VALUES if not (type(odd) is int and 0 <= odd < 3)] + [3, 12, "0", (2,), 1000]:
            self.assert_raised(BadPeriod, {}, worth, SMALL, value)
        self.assert_raised(BadProblem, {"part": 3, "index": 0}, worth, ((1,), (1,), (1,), (-1,)), None)


if __name__ == "__main__":
    unittest.main()
