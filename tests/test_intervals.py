"""Points 5 and 6: least costs and least plans."""

import unittest

from lotplans.errors import TooMany
from lotplans.intervals import least_cost, least_plan, least_plans, rest_costs, stage_costs
from tests.helpers import (
    EDGES, FAR, NOTHING, ONE, SMALL, Case, all_plans, interval_plans, least_of, part_of, plan_cost, random_problems,
)

# Problems with just 500, with 504 and with 2048 least plans.
JUST_500 = ((1,) * 12, (0, 0, 4, 2, 0, 12, 0, 0, 0, 0, 2, 0), (5, 5, 3, 3, 3, 1, 3, 3, 3, 3, 1, 1), (0,) * 12)
MORE_504 = ((1,) * 12, (0, 2, 0, 2, 0, 0, 3, 0, 2, 0, 0, 0), (7, 5, 5, 3, 3, 3, 2, 3, 1, 1, 1, 1), (0,) * 12)
ALL_2048 = ((1,) * 12, (0,) * 12, (0,) * 12, (0,) * 12)


def least_ones(problem):
    """All interval plans with the least cost, ascending, by all sets of periods."""
    plans = interval_plans(problem)
    costs = [plan_cost(problem, plan) for plan in plans]
    return [plan for plan, told in zip(plans, costs) if told == min(costs)]


class Costs(Case):
    def test_example(self):
        told = [least_cost(SMALL), least_plan(SMALL), stage_costs(SMALL)]
        self.assertEqual(told, [21, (9, 0, 0), (0, 10, 13, 21)])

    def test_against_all_sets_of_starts(self):
        for problem in EDGES[:4] + random_problems(21, 150, 7):
            many = len(problem[0])
            self.assertEqual(least_cost(problem), least_of(problem))
            stages = [least_of(part_of(problem, 0, k)) if k else 0 for k in range(many + 1)]
            self.assertEqual(stage_costs(problem), tuple(stages))
            rests = [least_of(part_of(problem, k, many)) if k < many else 0 for k in range(many + 1)]
            self.assertEqual(rest_costs(problem), tuple(rests))

    def test_twelve_periods(self):
        for problem in EDGES + random_problems(22, 8, 12, 12):
            self.assertEqual(least_cost(problem), least_of(problem))
            self.assertEqual(stage_costs(problem)[-1], least_of(problem))
            self.assertEqual(rest_costs(problem)[0], least_of(problem))
            self.assertEqual(len(stage_costs(problem)), len(problem[0]) + 1)

    def test_against_all_plans(self):
        for problem in random_problems(23, 400, 4):
            if sum(problem[0]) <= 6:
                self.assertEqual(least_cost(problem), min(plan_cost(problem, plan) for plan in all_plans(problem)))

    def test_edges(self):
        self.assertEqual(stage_costs(ONE), (0, 11))
        self.assertEqual(rest_costs(ONE), (11, 0))
        self.assertEqual(stage_costs(NOTHING), (0, 0, 0, 0))
        self.assertEqual(rest_costs(NOTHING), (0, 0, 0, 0))
        self.assertEqual(rest_costs(SMALL), (21, 14, 10, 0))
        # what is kept at the end of all, or of a lot, costs nothing
        self.assertEqual(least_cost(((1, 1), (1, 1), (0, 0), (999, 999))), 2)
        # a demand may be made where nothing is demanded
        self.assertEqual(rest_costs(((0, 5), (1, 900), (1, 1), (1, 1))), (11, 905, 0))
        self.assertEqual(stage_costs(((0, 5), (1, 900), (1, 1), (1, 1))), (0, 0, 11))

    def test_wrong_problems(self):
        for call in (least_cost, stage_costs, rest_costs, least_plans, least_plan):
            self.assert_problem_checked(call)


class Plans(Case):
    def test_against_all_sets_of_starts(self):
        for problem in EDGES[:6] + random_problems(24, 250, 7):
            told = least_plans(problem)
            self.assertIs(type(told), list)
            self.assertEqual(told, least_ones(problem))
            self.assertEqual(told, sorted(set(told)))
            self.assertEqual(least_plan(problem), told[0])

    def test_twelve_periods(self):
        for problem in EDGES + [JUST_500, MORE_504] + random_problems(25, 12, 12, 12):
            fine = least_ones(problem)
            self.assertEqual(least_plan(problem), fine[0])
            if len(fine) > 500:
                self.assert_raised(TooMany, {"most": 500}, least_plans, problem)
            else:
                self.assertEqual(least_plans(problem), fine)

    def test_against_all_plans(self):
        # the least cost is taken over plans of whatever kind, but only interval plans are told
        for problem in random_problems(26, 300, 4):
            if sum(problem[0]) <= 6:
                plans = all_plans(problem)
                least = min(plan_cost(problem, plan) for plan in plans)
                fine = set(interval_plans(problem))
                told = [plan for plan in plans if plan_cost(problem, plan) == least and plan in fine]
                self.assertEqual(least_plans(problem), sorted(told))

    def test_ties(self):
        self.assertEqual(least_plans(((1, 1), (1, 1), (0, 0), (1, 1))), [(1, 1), (2, 0)])
        self.assertEqual(least_plans(FAR), [(6, 0, 9)])
        self.assertEqual(least_plans(((0, 1), (1, 1), (0, 0), (0, 0))), [(0, 1), (1, 0)])
        self.assertEqual(least_plans(((1, 0, 1), (0, 0, 0), (0, 0, 0), (0, 0, 0))), [(1, 0, 1), (1, 1, 0), (2, 0, 0)])

    def test_no_start(self):
        self.assertEqual(least_plans(NOTHING), [(0, 0, 0)])
        self.assertEqual(least_plan(NOTHING), (0, 0, 0))
        self.assertEqual(least_plans(((0,), (0,), (0,), (0,))), [(0,)])

    def test_too_many(self):
        self.assertEqual(len(least_ones(JUST_500)), 500)
        self.assertEqual(least_plans(JUST_500), least_ones(JUST_500))
        self.assertEqual(len(least_ones(MORE_504)), 504)
        for problem in (MORE_504, ALL_2048):
            self.assert_raised(TooMany, {"most": 500}, least_plans, problem)
        self.assertEqual(least_plan(ALL_2048), (1,) * 12)
        self.assertEqual(least_plan(((0,) + (1,) * 11,) + ((0,) * 12,) * 3), (0,) + (1,) * 11)

    def test_returned_lists_are_new(self):
        first = least_plans(SMALL)
        first.append("x")
        self.assertEqual(least_plans(SMALL), [(9, 0, 0)])


if __name__ == "__main__":
    unittest.main()
