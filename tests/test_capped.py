"""Point 18: greatest amounts."""

import random
import unittest

from lotplans.capped import capped_cost, capped_plan, first_short, is_capped, is_regular
from lotplans.errors import BadAmount, BadPlan, BadProblem
from tests.helpers import (
    EDGES, NOTHING, ONE, SMALL, Case, all_plans, bad_amounts, bad_plans, great_problems, is_fine_plan,
    least_by_stocks, least_of, moved_plans, parts_between, plan_cost, random_problems, scaled, some_plans,
)


def regular(problem, most, plan):
    """is_regular, by the words of point 18."""
    if max(plan) > most:
        return False
    return all(sum(1 for amount in part if amount != 0 and amount != most) <= 1
               for part in parts_between(problem, plan))


def short_of(problem, most):
    """first_short, by its words."""
    for period in range(len(problem[0])):
        if sum(problem[0][:period + 1]) > most * (period + 1):
            return period
    return None


def cases(seed, times, longest, shortest=1):
    """Problems with small demands, and greatest amounts that matter."""
    source = random.Random(seed)
    found = []
    for problem in random_problems(seed, times, longest, shortest):
        if max(problem[0]) <= 9:
            found.append((problem, source.randint(1, max(1, min(sum(problem[0]), 12)))))
    return found


class Whether(Case):
    def test_all_plans_of_small_problems(self):
        for problem in (SMALL, ((2, 1, 2, 1), (1,) * 4, (0,) * 4, (0,) * 4),
                        ((0, 3, 0, 2), (1,) * 4, (0,) * 4, (0,) * 4), NOTHING, ONE):
            seen = set()
            for plan in all_plans(problem):
                for most in range(1, 8):
                    self.assertIs(is_capped(problem, most, plan), max(plan) <= most)
                    self.assertIs(is_regular(problem, most, plan), regular(problem, most, plan))
                    seen.add((is_capped(problem, most, plan), is_regular(problem, most, plan)))
            if sum(problem[0]) > 3:
                self.assertEqual(seen, {(True, True), (True, False), (False, False)})

    def test_drawn_plans(self):
        source = random.Random(61)
        for problem in random_problems(171, 100, 12):
            for plan in some_plans(problem, source):
                for most in {1, max(1, max(plan) - 1), max(1, max(plan)), max(plan) + 1}:
                    if most <= 9999:
                        self.assertIs(is_capped(problem, most, plan), max(plan) <= most)
                        self.assertIs(is_regular(problem, most, plan), regular(problem, most, plan))

    def test_no_stock(self):
        self.assertIs(is_regular(SMALL, 4, (2, 3, 4)), True)
        self.assertIs(is_regular(SMALL, 9, (2, 3, 4)), True)
        self.assertIs(is_regular(SMALL, 3, (2, 3, 4)), False)
        self.assertIs(is_regular(NOTHING, 1, (0, 0, 0)), True)

    def test_stock_all_along(self):
        # stocks 1, 1 and 2, 1 and 3, 3
        self.assertIs(is_regular(SMALL, 3, (3, 3, 3)), True)
        self.assertIs(is_regular(SMALL, 4, (3, 3, 3)), False)
        self.assertIs(is_regular(SMALL, 4, (4, 2, 3)), False)
        self.assertIs(is_regular(SMALL, 4, (4, 4, 1)), True)
        self.assertIs(is_regular(SMALL, 5, (5, 3, 1)), False)
        self.assertIs(is_regular(SMALL, 9, (9, 0, 0)), True)
        self.assertIs(is_regular(SMALL, 8, (8, 1, 0)), True)
        self.assertIs(is_regular(SMALL, 9, (8, 1, 0)), False)

    def test_two_amounts_between_two_stocks_of_0(self):
        problem = ((2, 3, 2, 3), (1,) * 4, (0,) * 4, (0,) * 4)
        # stocks 1, 0, 1, 0: each part has one amount that is not the greatest one
        self.assertIs(is_regular(problem, 3, (3, 2, 3, 2)), True)
        # the period with stock 0 at its end belongs to the part ahead
        self.assertIs(is_regular(problem, 4, (3, 2, 2, 3)), False)
        self.assertIs(is_regular(problem, 4, (2, 3, 3, 2)), False)
        self.assertIs(is_regular(problem, 4, (2, 3, 2, 3)), True)
        self.assertIs(is_regular(problem, 9, (4, 1, 5, 0)), False)
        self.assertIs(is_regular(problem, 9, (5, 0, 4, 1)), False)
        self.assertIs(is_regular(problem, 9, (5, 0, 5, 0)), True)

    def test_wrong_values(self):
        for call in (is_capped, is_regular):
            self.assert_problem_checked(call, 5, (2, 3, 4))
            for most in bad_amounts():
                for plan in ((2, 3, 4), (2, 3, 5), None):
                    self.assert_raised(BadAmount, {}, call, SMALL, most, plan)
            for plan, index in bad_plans():
                for most in (1, 5, 9999):
                    self.assert_raised(BadPlan, {"index": index}, call, SMALL, most, plan)

    def test_order_of_errors(self):
        bad = ((1,), (1,), (1,), (-1,))
        for call in (is_capped, is_regular):
            self.assert_raised(BadProblem, {"part": 3, "index": 0}, call, bad, 0, None)
            self.assert_raised(BadAmount, {}, call, ONE, 0, None)
            self.assert_raised(BadPlan, {"index": None}, call, ONE, 1, None)


class Least(Case):
    def assert_least(self, problem, most, expected):
        cost, plan = capped_cost(problem, most), capped_plan(problem, most)
        self.assertEqual(cost, expected)
        self.assertEqual(first_short(problem, most), short_of(problem, most))
        self.assertIs(cost is None, short_of(problem, most) is not None)
        if cost is None:
            self.assertIsNone(plan)
            return
        self.assertIs(type(plan), tuple)
        self.assertEqual({type(amount) for amount in plan}, {int})
        self.assertTrue(is_fine_plan(problem, plan))
        self.assertLessEqual(max(plan), most)
        self.assertTrue(regular(problem, most, plan), (problem, most, plan))
        self.assertIs(is_regular(problem, most, plan), True)
        self.assertEqual(plan_cost(problem, plan), expected)

    def test_example(self):
        self.assertEqual([capped_cost(SMALL, 3), first_short(SMALL, 2)], [32, 1])
        self.assertEqual(capped_plan(SMALL, 3), (3, 3, 3))
        self.assertIsNone(first_short(SMALL, 3))
        self.assertIsNone(capped_plan(SMALL, 2))
        self.assertIsNone(capped_cost(SMALL, 2))

    def test_against_all_plans(self):
        seen = set()
        for problem, _ in cases(172, 200, 4):
            if sum(problem[0]) <= 7:
                plans = all_plans(problem)
                for most in range(1, sum(problem[0]) + 2):
                    costs = [plan_cost(problem, plan) for plan in plans if max(plan) <= most]
                    self.assert_least(problem, most, min(costs, default=None))
                    seen.add(bool(costs))
        self.assertEqual(seen, {True, False})

    def test_against_all_stocks(self):
        none = 0
        for problem, most in cases(173, 250, 8) + cases(174, 12, 12, 12):
            expected = least_by_stocks(problem, most=most)
            self.assert_least(problem, most, expected)
            none += expected is None
        self.assertGreater(none, 20)

    def test_just_enough(self):
        # each period must make all that it can
        problem = ((1, 2, 3, 2), (9, 9, 9, 9), (0, 5, 0, 9), (1, 1, 1, 1))
        self.assert_least(problem, 2, 36 + 10 + 18 + 1 + 1)
        self.assertEqual(capped_plan(problem, 2), (2, 2, 2, 2))
        self.assertEqual(first_short(problem, 1), 1)
        self.assertEqual(first_short(((1, 2, 4, 1),) + problem[1:], 2), 2)
        self.assertEqual(first_short(((1, 2, 3, 3),) + problem[1:], 2), 3)
        self.assertEqual(first_short(((3, 0, 0, 0),) + problem[1:], 2), 0)

    def test_amounts_of_1_and_9999(self):
        ones = ((1, 0, 1, 1), (5, 1, 9, 1), (0, 0, 0, 0), (1, 1, 1, 1))
        self.assert_least(ones, 1, 5 + 1 + 1 + 1)
        self.assert_least(((1, 0, 2, 1),) + ones[1:], 1, 5 + 1 + 9 + 1 + 1)
        self.assert_least(((0, 2, 2, 1),) + ones[1:], 1, None)
        self.assert_least(((2, 0, 1, 1),) + ones[1:], 1, None)
        for problem in EDGES + random_problems(175, 30, 12):
            if sum(problem[0]) <= 9999:
                self.assert_least(problem, 9999, least_of(problem))
        # more is demanded than one amount can be
        great = ((999,) * 12, (999,) * 12, (0,) * 12, (0,) * 12)
        self.assert_least(great, 9999, 2 * 999)
        self.assertEqual(sum(capped_plan(great, 9999)), 12 * 999)
        self.assert_least(great, 998, None)
        self.assert_least(great, 999, 12 * 999)
        self.assert_least(great, 1000, 12 * 999)

    def test_nothing_demanded(self):
        for most in (1, 5, 9999):
            self.assert_least(NOTHING, most, 0)
            self.assertEqual(capped_plan(NOTHING, most), (0, 0, 0))
        self.assert_least(ONE, 3, 11)
        self.assert_least(ONE, 2, None)

    def test_a_bound_that_never_holds(self):
        for problem in great_problems(176, 8) + random_problems(177, 60, 7):
            most = sum(problem[0])
            if 1 <= most <= 9999:
                self.assert_least(problem, most, least_of(problem))

    def test_great_demands(self):
        source = random.Random(62)
        for problem in great_problems(178, 6):
            needed = max(-(-sum(problem[0][:count]) // count) for count in range(1, 13))
            for most in (needed, needed + source.randint(1, 400), 2 * needed + 7):
                plan = capped_plan(problem, most)
                cost = plan_cost(problem, plan)
                self.assert_least(problem, most, cost)
                self.assertGreaterEqual(cost, least_of(problem))
                drawn = [other for other in moved_plans(plan, source, 300) if is_fine_plan(problem, other)]
                drawn = [other for other in drawn if max(other) <= most and other != plan]
                for other in drawn:
                    self.assertGreaterEqual(plan_cost(problem, other), cost)
                self.assertTrue(drawn or most == needed)
            self.assert_least(problem, max(1, needed - 1), None)

    def test_great_demands_that_are_many_times_small_ones(self):
        source = random.Random(63)
        for problem in random_problems(179, 12, 12, 12):
            problem = tuple(tuple(entry % 10 for entry in row) for row in problem)
            most = source.randint(5, 20)
            least = least_by_stocks(problem, most=most)
            self.assert_least(scaled(problem, 111), 111 * most, None if least is None else 111 * least)

    def test_wrong_values(self):
        for call in (capped_cost, capped_plan, first_short):
            self.assert_problem_checked(call, 5)
            for most in bad_amounts():
                self.assert_raised(BadAmount, {}, call, SMALL, most)
        self.assert_raised(BadProblem, {"part": 0, "index": 0}, capped_cost, ((-1,), (1,), (1,), (1,)), 0)


if __name__ == "__main__":
    unittest.main()
