"""Point 20: loads."""

import random
import unittest

from lotplans.errors import BadAmount, BadPlan, BadProblem
from lotplans.trucks import is_loaded, least_truck_cost, truck_cost, truck_plan
from tests.helpers import (
    EDGES, FAR, NOTHING, ONE, SMALL, Case, all_plans, bad_amounts, bad_plans, great_problems, is_fine_plan,
    least_by_stocks, least_of, moved_plans, parts_between, plan_cost, random_problems, scaled, some_plans, stock_list,
)


def paid_for(problem, load, plan):
    """truck_cost, by its words."""
    total = 0
    for period, stock in enumerate(stock_list(problem, plan)):
        begun = 0
        while begun * load < plan[period]:
            begun += 1
        total += begun * problem[1][period] + plan[period] * problem[2][period] + stock * problem[3][period]
    return total


def loaded(problem, load, plan):
    """is_loaded, by its words."""
    return all(sum(1 for amount in part if amount % load) <= 1 for part in parts_between(problem, plan))


def cases(seed, times, longest, shortest=1):
    source = random.Random(seed)
    return [(problem, source.randint(1, source.choice([2, 5, 12]))) for problem
            in random_problems(seed, times, longest, shortest) if max(problem[0]) <= 9]


class Cost(Case):
    def test_loads_that_are_begun(self):
        problem = ((2, 3, 4), (100, 200, 400), (10, 20, 40), (1, 2, 3))
        # stocks 2, 0, 0
        for load, begun in ((1, 400 + 200 + 1600), (2, 200 + 200 + 800), (3, 200 + 200 + 800), (4, 700), (9999, 700)):
            self.assertEqual(truck_cost(problem, load, (4, 1, 4)), begun + 40 + 20 + 160 + 2)
        self.assertEqual([truck_cost(ONE, load, (3,)) for load in (1, 2, 3, 4)], [21, 16, 11, 11])
        self.assertEqual(truck_cost(NOTHING, 1, (0, 0, 0)), 0)

    def test_against_its_words(self):
        source = random.Random(81)
        for problem in EDGES + random_problems(201, 60, 12):
            for plan in some_plans(problem, source)[:8]:
                for load in (source.randint(20, 9999), max(1, max(plan)), max(1, max(plan) - 1), max(plan) // 2 + 1):
                    load = min(load, 9999)
                    self.assertEqual(truck_cost(problem, load, plan), paid_for(problem, load, plan))

    def test_a_load_of_all_demands_costs_as_a_plan_does(self):
        source = random.Random(82)
        for problem in random_problems(202, 60, 7):
            load = max(1, sum(problem[0]))
            for plan in some_plans(problem, source):
                self.assertEqual(truck_cost(problem, load, plan), plan_cost(problem, plan))

    def test_wrong_values(self):
        for call in (truck_cost, is_loaded):
            self.assert_problem_checked(call, 5, (2, 3, 4))
            for load in bad_amounts():
                for plan in ((2, 3, 4), (2, 3, 5), None):
                    self.assert_raised(BadAmount, {}, call, SMALL, load, plan)
            for plan, index in bad_plans():
                for load in (1, 5, 9999):
                    self.assert_raised(BadPlan, {"index": index}, call, SMALL, load, plan)

    def test_order_of_errors(self):
        bad = ((1,), (1,), (1,), (-1,))
        for call in (truck_cost, is_loaded):
            self.assert_raised(BadProblem, {"part": 3, "index": 0}, call, bad, 0, None)
            self.assert_raised(BadAmount, {}, call, ONE, 0, None)
            self.assert_raised(BadPlan, {"index": 1}, call, ONE, 1, (4,))


class Loaded(Case):
    def test_all_plans_of_small_problems(self):
        for problem in (SMALL, ((2, 1, 2, 1), (1,) * 4, (0,) * 4, (0,) * 4),
                        ((0, 3, 0, 2), (1,) * 4, (0,) * 4, (0,) * 4), NOTHING, ONE):
            for plan in all_plans(problem):
                for load in range(1, 8):
                    self.assertIs(is_loaded(problem, load, plan), loaded(problem, load, plan))

    def test_drawn_plans(self):
        source = random.Random(83)
        seen = set()
        for problem in random_problems(203, 100, 12):
            for plan in some_plans(problem, source):
                for load in (1, 2, max(1, max(plan) // 2), max(1, max(plan))):
                    self.assertIs(is_loaded(problem, load, plan), loaded(problem, load, plan))
                    seen.add(is_loaded(problem, load, plan))
        self.assertEqual(seen, {True, False})

    def test_edges(self):
        # no stock: each amount stands alone
        self.assertIs(is_loaded(SMALL, 5, (2, 3, 4)), True)
        # stock all along
        self.assertIs(is_loaded(SMALL, 3, (3, 3, 3)), True)
        self.assertIs(is_loaded(SMALL, 3, (6, 0, 3)), True)
        self.assertIs(is_loaded(SMALL, 4, (8, 0, 1)), True)
        self.assertIs(is_loaded(SMALL, 4, (3, 3, 3)), False)
        self.assertIs(is_loaded(SMALL, 4, (7, 0, 2)), False)
        # two amounts between two stocks of 0; the period with stock 0 at its end belongs to the part ahead
        problem = ((2, 3, 2, 3), (1,) * 4, (0,) * 4, (0,) * 4)
        self.assertIs(is_loaded(problem, 3, (3, 2, 3, 2)), True)
        self.assertIs(is_loaded(problem, 4, (3, 2, 2, 3)), False)
        self.assertIs(is_loaded(problem, 4, (2, 3, 3, 2)), False)
        self.assertIs(is_loaded(problem, 4, (2, 3, 2, 3)), True)
        # with loads of 1 each amount is a number of full loads
        for plan in all_plans(SMALL):
            self.assertIs(is_loaded(SMALL, 1, plan), True)


class Least(Case):
    def assert_least(self, problem, load, expected):
        cost, plan = least_truck_cost(problem, load), truck_plan(problem, load)
        self.assertEqual((type(cost), cost), (int, expected))
        self.assertIs(type(plan), tuple)
        self.assertEqual({type(amount) for amount in plan}, {int})
        self.assertTrue(is_fine_plan(problem, plan))
        self.assertTrue(loaded(problem, load, plan), (problem, load, plan))
        self.assertIs(is_loaded(problem, load, plan), True)
        self.assertEqual(paid_for(problem, load, plan), expected)
        self.assertEqual(truck_cost(problem, load, plan), expected)

    def test_example(self):
        self.assertEqual(least_truck_cost(SMALL, 5), 23)
        self.assertEqual(truck_plan(SMALL, 5), (5, 0, 4))

    def test_against_all_plans(self):
        for problem, _ in cases(204, 200, 4):
            if sum(problem[0]) <= 7:
                plans = all_plans(problem)
                for load in range(1, sum(problem[0]) + 2):
                    self.assert_least(problem, load, min(paid_for(problem, load, plan) for plan in plans))

    def test_against_all_stocks(self):
        dearer = 0
        for problem, load in cases(205, 250, 8) + cases(206, 12, 12, 12):
            expected = least_by_stocks(problem, load=load)
            self.assert_least(problem, load, expected)
            dearer += expected > least_of(problem)
        self.assertGreater(dearer, 50)

    def test_loads_of_1(self):
        # each unit pays its setup, so each is made where this and all else is least for it
        for problem in EDGES + random_problems(207, 40, 12):
            demands, setups, units, holdings = problem
            total = 0
            for goal, demand in enumerate(demands):
                ways = [setups[start] + units[start] + sum(holdings[start:goal]) for start in range(goal + 1)]
                total += demand * min(ways)
            if sum(demands) <= 500:
                self.assert_least(problem, 1, total)
            else:
                self.assertEqual(least_truck_cost(problem, 1), total)
                self.assertEqual(truck_cost(problem, 1, truck_plan(problem, 1)), total)

    def test_loads_of_all_demands_and_more(self):
        for problem in EDGES + random_problems(208, 40, 7) + great_problems(209, 4):
            whole = sum(problem[0])
            for load in (max(1, whole), whole + 1, 9999):
                if whole <= load <= 9999:
                    self.assert_least(problem, load, least_of(problem))

    def test_a_rest_that_is_made_late_or_early(self):
        # the rest of 1 is made first, the full loads of 3 behind it
        problem = ((1, 3, 3), (9, 9, 9), (0, 0, 0), (1, 1, 1))
        self.assert_least(problem, 3, 27)
        self.assertEqual(truck_plan(problem, 3), (1, 3, 3))
        # two full loads, of which 2 units are kept, and the rest of 1 where a load that is begun costs nothing
        problem = ((4, 2, 1), (9, 9, 0), (0, 0, 0), (1, 1, 1))
        self.assert_least(problem, 3, 18 + 2)
        self.assertEqual(truck_plan(problem, 3), (6, 0, 1))
        # the rest of 2 beside a full load, while a unit is in stock all along
        problem = ((3, 2, 5), (9, 1, 9), (0, 1, 1), (0, 0, 0))
        self.assert_least(problem, 4, 9 + 1 + 1 + 6)
        self.assertEqual(truck_plan(problem, 4), (4, 6, 0))

    def test_nothing_demanded(self):
        for load in (1, 5, 9999):
            self.assert_least(NOTHING, load, 0)
            self.assertEqual(truck_plan(NOTHING, load), (0, 0, 0))
        self.assertEqual([least_truck_cost(ONE, load) for load in (1, 2, 3, 4)], [21, 16, 11, 11])
        self.assertEqual(least_truck_cost(FAR, 15), 10)

    def test_great_demands(self):
        source = random.Random(84)
        for problem in great_problems(210, 6):
            for load in (7, 250, 1000, 4321):
                plan = truck_plan(problem, load)
                cost = paid_for(problem, load, plan)
                self.assert_least(problem, load, cost)
                self.assertGreaterEqual(cost, least_of(problem))
                drawn = [other for other in moved_plans(plan, source, 200) + moved_plans(problem[0], source, 100)
                         if is_fine_plan(problem, other)]
                self.assertGreater(len(set(drawn)), 20)
                for other in drawn:
                    self.assertGreaterEqual(paid_for(problem, load, other), cost)

    def test_great_demands_that_are_many_times_small_ones(self):
        source = random.Random(85)
        for problem in random_problems(211, 12, 12, 12):
            problem = tuple(tuple(entry % 10 for entry in row) for row in problem)
            load = source.randint(1, 20)
            self.assert_least(scaled(problem, 111), 111 * load, 111 * least_by_stocks(problem, load=load))

    def test_wrong_values(self):
        for call in (least_truck_cost, truck_plan):
            self.assert_problem_checked(call, 5)
            for load in bad_amounts():
                self.assert_raised(BadAmount, {}, call, SMALL, load)
        self.assert_raised(BadProblem, {"part": 0, "index": 0}, truck_plan, ((-1,), (1,), (1,), (1,)), 0)


if __name__ == "__main__":
    unittest.main()
