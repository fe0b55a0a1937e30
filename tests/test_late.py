"""Point 17: demands that may be owed."""

import itertools
import random
import unittest

from lotplans.errors import BadLates, BadPlan, BadProblem
from lotplans.late import late_cost, late_plan, late_prices, late_stages, shows_late_prices
from tests.helpers import (
    EDGES, NOTHING, ODD_VALUES, ONE, SMALL, Case, all_amounts, all_plans, bad_entry_rows, great_problems,
    least_by_stocks, least_of, moved_plans, part_of, plan_cost, random_problems, scaled, stock_list,
)

EXAMPLE = ((2, 0, 0), (10, 0, 10), (0, 0, 0), (5, 5, 5))


def paid_for(problem, lates, plan):
    """late_cost, by its words."""
    total = 0
    for period, stock in enumerate(stock_list(problem, plan)):
        total += problem[1][period] if plan[period] else 0
        total += plan[period] * problem[2][period]
        total += stock * problem[3][period] if stock > 0 else -stock * lates[period]
    return total


def lot_cost(problem, lates, start, end):
    """The least cost of a late lot, by its words."""
    demands, setups, units, holdings = problem
    if not any(demands[start:end]):
        return 0
    costs = []
    for period in range(start, end):
        paid = setups[period]
        for goal in range(start, end):
            way = sum(holdings[period:goal]) if goal >= period else sum(lates[goal:period])
            paid += demands[goal] * (units[period] + way)
        costs.append(paid)
    return min(costs)


def are_late_prices(problem, lates, value):
    """Point 17's prices, by its words, for integers."""
    many = len(problem[0])
    if sum(value) != least_by_stocks(problem, lates=lates):
        return False
    return all(sum(value[start:end]) <= lot_cost(problem, lates, start, end)
               for start in range(many) for end in range(start + 1, many + 1))


def random_lates(problem, source):
    most = source.choice([0, 1, 5, 40, 999])
    return tuple(source.randint(0, most) for _ in problem[0])


def cases(seed, times, longest):
    source = random.Random(seed)
    found = []
    for problem in random_problems(seed, times, longest):
        if max(problem[0]) <= 9:
            found.append((problem, random_lates(problem, source)))
    return found


class Cost(Case):
    def test_stocks_below_0(self):
        # stocks -2, -1, 0 and 3, 0, 0 and -2, 1, 0
        problem = ((2, 1, 3), (100, 200, 400), (10, 20, 40), (1, 2, 3))
        lates = (5, 7, 999)
        self.assertEqual(late_cost(problem, lates, (0, 2, 4)), 200 + 400 + 40 + 160 + 2 * 5 + 1 * 7)
        self.assertEqual(late_cost(problem, lates, (5, 1, 0)), 100 + 200 + 50 + 20 + 3 * 1 + 3 * 2)
        self.assertEqual(late_cost(problem, lates, (0, 4, 2)), 200 + 400 + 80 + 80 + 2 * 5 + 1 * 2)
        self.assertEqual(late_cost(problem, lates, (0, 0, 6)), 400 + 240 + 2 * 5 + 3 * 7)

    def test_against_its_words(self):
        source = random.Random(51)
        for problem in EDGES + random_problems(161, 80, 12):
            lates = random_lates(problem, source)
            for plan in moved_plans(problem[0], source, 15):
                self.assertEqual(late_cost(problem, lates, plan), paid_for(problem, lates, plan))

    def test_plans_without_owing_cost_the_same(self):
        for problem in (SMALL, ((1, 0, 2), (1, 1, 1), (0, 1, 0), (2, 3, 1)), NOTHING):
            for plan in all_plans(problem):
                self.assertEqual(late_cost(problem, (7, 8, 9), plan), plan_cost(problem, plan))

    def test_wrong_plans(self):
        for value in ODD_VALUES + [(2, 3), (2, 3, 4, 0), [2, 3, 4], (2, 3, True), (2, 3, None), (2, 3, "4"),
                                   (2, 3, (4,)), (10, -1, 0), (0, -1, 10), {0: 9}]:
            self.assert_raised(BadPlan, {"index": None}, late_cost, SMALL, (1, 1, 1), value)
        for value in ((2, 3, 3), (0, 0, 8), (2, 3, 5), (0, 0, 0), (10 ** 30, 0, 0), (9, 9, 9)):
            self.assert_raised(BadPlan, {"index": 3}, late_cost, SMALL, (1, 1, 1), value)
        self.assert_raised(BadPlan, {"index": 1}, late_cost, ONE, (1,), (4,))
        # no first period with a stock below 0 is told
        for value in ((0, 0, 9), (1, 4, 4), (0, 9, 0)):
            self.assertIs(type(late_cost(SMALL, (1, 1, 1), value)), int)


class Least(Case):
    def test_example(self):
        self.assertEqual(late_stages(EXAMPLE, (4, 4, 4)), (0, 10, 8, 8))
        self.assertEqual(late_plan(EXAMPLE, (4, 4, 4)), (0, 2, 0))

    def assert_least(self, problem, lates, expected):
        plan = late_plan(problem, lates)
        self.assertIs(type(plan), tuple)
        self.assertEqual({type(amount) for amount in plan}, {int})
        self.assertTrue(len(plan) == len(problem[0]) and min(plan) >= 0 and sum(plan) == sum(problem[0]))
        self.assertEqual(paid_for(problem, lates, plan), expected)
        self.assertEqual(late_cost(problem, lates, plan), expected)
        self.assertEqual(late_stages(problem, lates)[-1], expected)

    def test_against_all_amounts(self):
        count = 0
        for problem, lates in cases(162, 250, 4):
            if sum(problem[0]) <= 8:
                count += 1
                costs = [paid_for(problem, lates, plan) for plan in all_amounts(sum(problem[0]), len(problem[0]))]
                self.assert_least(problem, lates, min(costs))
        self.assertGreater(count, 80)

    def test_stages(self):
        for problem, lates in cases(163, 100, 6):
            many = len(problem[0])
            stages = late_stages(problem, lates)
            self.assertIs(type(stages), tuple)
            self.assertEqual(stages[0], 0)
            for count in range(1, many + 1):
                self.assertEqual(stages[count], least_by_stocks(part_of(problem, 0, count), lates=lates[:count]))
            self.assert_least(problem, lates, stages[many])

    def test_a_first_period_that_only_later_ones_make_for(self):
        problem = ((3, 2, 1), (90, 5, 90), (9, 1, 9), (1, 1, 1))
        self.assertEqual(late_stages(problem, (2, 9, 9)), (0, 117, 5 + 5 + 6, 5 + 6 + 6 + 1))
        self.assertEqual(late_plan(problem, (2, 9, 9)), (0, 6, 0))
        # owed over two periods, past one without a demand
        problem = ((3, 0, 1), (90, 90, 5), (9, 9, 1), (1, 1, 1))
        self.assertEqual(late_stages(problem, (2, 3, 999))[-1], 5 + 4 + 3 * 5)
        self.assertEqual(late_plan(problem, (2, 3, 999)), (0, 0, 4))
        # a lot that owes some and keeps some, behind one that only keeps
        problem = ((4, 4, 4, 4, 4), (9, 99, 99, 9, 99), (0,) * 5, (1,) * 5)
        self.assertEqual(late_plan(problem, (1,) * 5), (8, 0, 0, 12, 0))
        self.assertEqual(late_stages(problem, (1,) * 5)[-1], 9 + 4 + 9 + 4 + 4)

    def test_the_last_period_owes_nothing(self):
        for last in (0, 5, 999):
            self.assertEqual(late_stages(EXAMPLE, (4, 4, last)), (0, 10, 8, 8))
            self.assertEqual(late_stages(ONE, (last,)), (0, 11))

    def test_nothing_demanded(self):
        self.assertEqual(late_stages(NOTHING, (0, 0, 0)), (0, 0, 0, 0))
        self.assertEqual(late_plan(NOTHING, (0, 0, 0)), (0, 0, 0))
        self.assertEqual(late_prices(NOTHING, (0, 0, 0)), (0, 0, 0))

    def test_great_demands(self):
        source = random.Random(52)
        for problem in great_problems(164, 6):
            lates = tuple(source.randint(0, 3) for _ in range(12))
            plan = late_plan(problem, lates)
            least = late_stages(problem, lates)[-1]
            self.assert_least(problem, lates, least)
            self.assertLessEqual(least, least_of(problem))
            for other in moved_plans(plan, source, 150) + moved_plans(problem[0], source, 150):
                self.assertGreaterEqual(paid_for(problem, lates, other), least)

    def test_great_demands_that_are_many_times_small_ones(self):
        source = random.Random(53)
        for problem in random_problems(165, 12, 12, 12):
            problem = tuple(tuple(entry % 10 for entry in row) for row in problem)
            lates = tuple(source.randint(0, 4) for _ in range(12))
            self.assert_least(scaled(problem, 111), lates, 111 * least_by_stocks(problem, lates=lates))

    def test_owing_that_is_never_worth_it(self):
        for problem in great_problems(166, 6):
            # a unit owed costs more than a setup and all that can be spared by making a unit later
            demands = tuple(max(demand, 1) for demand in problem[0])
            cheap = (demands, tuple(setup % 500 for setup in problem[1])) + problem[2:]
            self.assert_least(cheap, (999,) * 12, least_of(cheap))

    def test_wrong_values(self):
        for call in (late_stages, late_plan, late_prices):
            self.assert_problem_checked(call, (1, 1, 1))
            for value in bad_entry_rows():
                self.assert_raised(BadLates, {}, call, SMALL, value)
        self.assert_problem_checked(late_cost, (1, 1, 1), (2, 3, 4))
        self.assert_problem_checked(shows_late_prices, (1, 1, 1), (10, 3, 8))
        for value in bad_entry_rows():
            for last in ((2, 3, 4), (2, 3, 5), None):
                self.assert_raised(BadLates, {}, late_cost, SMALL, value, last)
                self.assert_raised(BadLates, {}, shows_late_prices, SMALL, value, last)
        for value in ((0, 0, 0), (999, 999, 999)):
            self.assertEqual(late_cost(SMALL, value, (2, 3, 4)), 30)

    def test_order_of_errors(self):
        bad = ((1,), (1,), (1,), (-1,))
        self.assert_raised(BadProblem, {"part": 3, "index": 0}, late_cost, bad, None, None)
        self.assert_raised(BadProblem, {"part": 3, "index": 0}, shows_late_prices, bad, None, None)
        self.assert_raised(BadLates, {}, late_cost, ONE, (1, 1), (4,))
        self.assert_raised(BadPlan, {"index": 1}, late_cost, ONE, (1,), (2,))


class Prices(Case):
    def test_prices_are_prices(self):
        negative = 0
        for problem, lates in [(EXAMPLE, (4, 4, 4)), (SMALL, (1, 1, 1)), (NOTHING, (1, 1, 1)), (ONE, (9,))] + \
                cases(167, 150, 7):
            value = late_prices(problem, lates)
            self.assertIs(type(value), tuple)
            self.assertEqual([type(price) for price in value], [int] * len(problem[0]))
            self.assertTrue(are_late_prices(problem, lates, value), (problem, lates, value))
            self.assertIs(shows_late_prices(problem, lates, value), True)
            negative += min(value) < 0
        self.assertGreater(negative, 5)

    def test_great_demands(self):
        source = random.Random(54)
        for problem in great_problems(168, 5):
            lates = tuple(source.randint(0, 3) for _ in range(12))
            value = late_prices(problem, lates)
            self.assertEqual(sum(value), late_stages(problem, lates)[-1])
            for start, end in itertools.combinations(range(13), 2):
                self.assertLessEqual(sum(value[start:end]), lot_cost(problem, lates, start, end))
            self.assertIs(shows_late_prices(problem, lates, value), True)

    def test_changed_prices(self):
        source = random.Random(55)
        seen = set()
        for problem, lates in cases(169, 150, 5):
            value = late_prices(problem, lates)
            for _ in range(12):
                changed = list(value)
                changed[source.randrange(len(value))] += source.choice([-3, -1, 0, 1, 2])
                if source.random() < 0.8:
                    changed[source.randrange(len(value))] += sum(value) - sum(changed)
                answer = shows_late_prices(problem, lates, tuple(changed))
                self.assertIs(answer, are_late_prices(problem, lates, changed))
                seen.add((answer, tuple(changed) == value))
        self.assertEqual(seen, {(True, True), (True, False), (False, False)})

    def test_all_tuples_of_small_problems(self):
        for problem, lates in ((EXAMPLE, (4, 4, 4)), (((1, 0, 2), (3, 1, 2), (1, 0, 1), (0, 1, 0)), (1, 2, 0)),
                               (((1, 1, 1), (2, 2, 0), (0, 1, 0), (1, 0, 0)), (0, 1, 1))):
            least = least_by_stocks(problem, lates=lates)
            lots = {(start, end): lot_cost(problem, lates, start, end)
                    for start, end in itertools.combinations(range(4), 2)}
            for value in itertools.product(range(-4, least + 3), repeat=2):
                whole = value + (least - sum(value),)
                fine = all(sum(whole[start:end]) <= most for (start, end), most in lots.items())
                self.assertIs(shows_late_prices(problem, lates, whole), fine)
                self.assertIs(shows_late_prices(problem, lates, value + (whole[2] - 1,)), False)

    def test_a_lot_without_demands_costs_nothing(self):
        problem = ((0, 2), (5, 5), (0, 0), (0, 0))
        self.assertIs(shows_late_prices(problem, (0, 0), (0, 5)), True)
        self.assertIs(shows_late_prices(problem, (0, 0), (1, 4)), False)
        self.assertIs(shows_late_prices(problem, (0, 0), (-1, 6)), False)
        self.assertIs(shows_late_prices(problem, (0, 0), (0, 4)), False)
        self.assertIs(shows_late_prices(((2, 0), (5, 3), (0, 0), (0, 0)), (0, 0), (4, -1)), True)
        self.assertIs(shows_late_prices(NOTHING, (1, 1, 1), (0, 0, 0)), True)
        self.assertIs(shows_late_prices(NOTHING, (1, 1, 1), (0, -1, 1)), False)
        self.assertIs(shows_late_prices(NOTHING, (1, 1, 1), (0, 0, -1)), False)

    def test_values_of_all_kinds(self):
        fine = late_prices(SMALL, (9, 9, 9))
        self.assertIs(shows_late_prices(SMALL, (9, 9, 9), fine), True)
        for value in ODD_VALUES + [list(fine), fine[:2], fine + (0,), fine[:2] + (str(fine[2]),), fine[:2] + (None,),
                                   fine[:2] + ((fine[2],),), dict(enumerate(fine))]:
            self.assertIs(shows_late_prices(SMALL, (9, 9, 9), value), False)
        one, zero = ((1,), (1,), (0,), (0,)), ((0,), (1,), (0,), (0,))
        self.assertEqual([shows_late_prices(one, (0,), value) for value in ((1,), (True,), (2,), (0,))],
                         [True, False, False, False])
        self.assertEqual([shows_late_prices(zero, (0,), value) for value in ((0,), (False,))], [True, False])


if __name__ == "__main__":
    unittest.main()
