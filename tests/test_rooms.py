"""Point 19: rooms."""

import itertools
import random
import unittest

from lotplans.errors import BadPlan, BadProblem, BadRooms
from lotplans.rooms import fits, is_edged, roomed_cost, roomed_plan
from tests.helpers import (
    EDGES, NOTHING, ONE, SMALL, Case, all_plans, bad_entry_rows, bad_plans, great_problems, is_fine_plan,
    least_by_stocks, least_of, moved_plans, plan_cost, random_problems, scaled, some_plans, start_list, stock_list,
)


def edged(problem, rooms, plan):
    """is_edged, by the words of point 19."""
    levels, periods = stock_list(problem, plan), start_list(plan)
    for first, second in zip(periods, periods[1:]):
        if not any(levels[period] == 0 or levels[period] == rooms[period] for period in range(first, second)):
            return False
    return True


def within(problem, rooms, plan):
    return all(level <= room for level, room in zip(stock_list(problem, plan), rooms))


def random_rooms(problem, source):
    most = source.choice([0, 1, 3, 6, 12])
    return tuple(source.randint(0, most) for _ in problem[0])


def cases(seed, times, longest, shortest=1):
    source = random.Random(seed)
    return [(problem, random_rooms(problem, source)) for problem in random_problems(seed, times, longest, shortest)
            if max(problem[0]) <= 9]


class Whether(Case):
    def test_all_plans_of_small_problems(self):
        for problem in (((2, 1, 2), (1,) * 3, (0,) * 3, (0,) * 3), ((0, 3, 2), (1,) * 3, (0,) * 3, (0,) * 3), NOTHING):
            seen = set()
            for plan in all_plans(problem):
                for rooms in itertools.product(range(5), range(5), (0, 7)):
                    answers = fits(problem, rooms, plan), is_edged(problem, rooms, plan)
                    self.assertIs(answers[0], within(problem, rooms, plan))
                    self.assertIs(answers[1], edged(problem, rooms, plan))
                    seen.add(answers)
            if problem != NOTHING:
                self.assertEqual(seen, set(itertools.product((True, False), repeat=2)))

    def test_drawn_plans(self):
        source = random.Random(71)
        for problem in random_problems(181, 100, 12):
            for plan in some_plans(problem, source):
                levels = [min(level, 999) for level in stock_list(problem, plan)]
                for rooms in (tuple(levels), tuple(max(0, level - 1) if source.random() < 0.2 else level
                                                   for level in levels),
                              tuple(min(level + source.randint(0, 2), 999) for level in levels)):
                    self.assertIs(fits(problem, rooms, plan), within(problem, rooms, plan))
                    self.assertIs(is_edged(problem, rooms, plan), edged(problem, rooms, plan))

    def test_fits_at_its_edge(self):
        # stocks 3, 1, 0
        for rooms, answer in (((3, 1, 0), True), ((2, 1, 0), False), ((3, 0, 0), False), ((999, 999, 999), True),
                              ((3, 1, 999), True), ((0, 0, 0), False)):
            self.assertIs(fits(SMALL, rooms, (5, 1, 3)), answer)
        self.assertIs(fits(SMALL, (0, 0, 0), (2, 3, 4)), True)

    def test_is_edged_at_its_edges(self):
        # stocks 3, 1, 0: the one that counts lies between two amounts
        for rooms, answer in (((3, 1, 5), True), ((4, 1, 5), False), ((3, 2, 5), False), ((2, 1, 0), False)):
            self.assertIs(is_edged(SMALL, rooms, (5, 1, 3)), answer)
        # stocks 4, 1, 0: either one between the two amounts
        for rooms, answer in (((4, 5, 5), True), ((5, 1, 5), True), ((5, 2, 0), False), ((3, 0, 5), False)):
            self.assertIs(is_edged(SMALL, rooms, (6, 0, 3)), answer)
        # stocks of 0, whatever the rooms are
        for rooms in ((0, 0, 0), (9, 9, 9), (999, 0, 1)):
            self.assertIs(is_edged(SMALL, rooms, (2, 3, 4)), True)
            self.assertIs(is_edged(SMALL, rooms, (5, 0, 4)), True)
            # one amount alone, or none
            self.assertIs(is_edged(SMALL, rooms, (9, 0, 0)), True)
            self.assertIs(is_edged(NOTHING, rooms, (0, 0, 0)), True)
        # the stock behind the last amount, or ahead of the first one, does not count
        problem = ((0, 1, 1, 1), (1,) * 4, (0,) * 4, (0,) * 4)
        self.assertIs(is_edged(problem, (0, 2, 1, 0), (0, 2, 1, 0)), False)
        self.assertIs(is_edged(problem, (0, 1, 9, 0), (0, 2, 1, 0)), True)
        # plans that do not fit may be edged
        self.assertIs(is_edged(SMALL, (2, 1, 0), (7, 0, 2)), False)
        self.assertIs(is_edged(SMALL, (2, 2, 0), (7, 0, 2)), True)
        self.assertIs(fits(SMALL, (2, 2, 0), (7, 0, 2)), False)

    def test_wrong_values(self):
        for call in (fits, is_edged):
            self.assert_problem_checked(call, (9, 9, 9), (2, 3, 4))
            for rooms in bad_entry_rows():
                for plan in ((2, 3, 4), (2, 3, 5), None):
                    self.assert_raised(BadRooms, {}, call, SMALL, rooms, plan)
            for plan, index in bad_plans():
                for rooms in ((0, 0, 0), (9, 9, 9)):
                    self.assert_raised(BadPlan, {"index": index}, call, SMALL, rooms, plan)

    def test_order_of_errors(self):
        bad = ((1,), (1,), (1,), (-1,))
        for call in (fits, is_edged):
            self.assert_raised(BadProblem, {"part": 3, "index": 0}, call, bad, None, None)
            self.assert_raised(BadRooms, {}, call, ONE, (1, 1), None)
            self.assert_raised(BadPlan, {"index": 1}, call, ONE, (1,), (4,))


class Least(Case):
    def assert_least(self, problem, rooms, expected):
        cost, plan = roomed_cost(problem, rooms), roomed_plan(problem, rooms)
        self.assertEqual((type(cost), cost), (int, expected))
        self.assertIs(type(plan), tuple)
        self.assertEqual({type(amount) for amount in plan}, {int})
        self.assertTrue(is_fine_plan(problem, plan))
        self.assertTrue(within(problem, rooms, plan), (problem, rooms, plan))
        self.assertTrue(edged(problem, rooms, plan), (problem, rooms, plan))
        self.assertEqual([fits(problem, rooms, plan), is_edged(problem, rooms, plan)], [True, True])
        self.assertEqual(plan_cost(problem, plan), expected)

    def test_example(self):
        self.assertEqual(roomed_cost(SMALL, (3, 0, 0)), 23)
        self.assertEqual(roomed_plan(SMALL, (3, 0, 0)), (5, 0, 4))

    def test_against_all_plans(self):
        for problem, _ in cases(182, 120, 3):
            if sum(problem[0]) <= 7:
                plans = all_plans(problem)
                for rooms in itertools.product((0, 1, 2, 5), repeat=len(problem[0])):
                    costs = [plan_cost(problem, plan) for plan in plans if within(problem, rooms, plan)]
                    self.assert_least(problem, rooms, min(costs))

    def test_against_all_plans_of_four_periods(self):
        for problem, rooms in cases(183, 150, 4, 4):
            if sum(problem[0]) <= 7:
                costs = [plan_cost(problem, plan) for plan in all_plans(problem) if within(problem, rooms, plan)]
                self.assert_least(problem, rooms, min(costs))

    def test_against_all_stocks(self):
        tight = 0
        for problem, rooms in cases(184, 250, 8) + cases(185, 12, 12, 12):
            expected = least_by_stocks(problem, rooms=rooms)
            self.assert_least(problem, rooms, expected)
            tight += expected > least_of(problem)
        self.assertGreater(tight, 50)

    def test_there_is_no_problem_in_which_no_plan_fits(self):
        # each period can make its own demand, so that None never comes up
        for problem in EDGES + random_problems(186, 30, 12):
            rooms = (0,) * len(problem[0])
            self.assertTrue(within(problem, rooms, problem[0]))
            self.assert_least(problem, rooms, plan_cost(problem, problem[0]))

    def test_rooms_that_are_filled(self):
        # as much as there is room for is made early, where it is cheap; the second room is the one that is filled
        problem = ((2, 3, 4), (0, 0, 0), (0, 9, 9), (1, 1, 1))
        self.assert_least(problem, (5, 1, 0), 4 + 1 + 27)
        self.assertEqual(roomed_plan(problem, (5, 1, 0)), (6, 0, 3))
        self.assert_least(problem, (1, 9, 9), 1 + 18 + 36)
        self.assertEqual(roomed_plan(problem, (1, 9, 9)), (3, 2, 4))
        # a room is filled behind a period that makes nothing
        problem = ((1, 1, 4, 4), (1, 50, 50, 1), (0, 0, 0, 9), (0, 0, 0, 0))
        self.assert_least(problem, (9, 9, 2, 0), 1 + 1 + 18)
        self.assertEqual(roomed_plan(problem, (9, 9, 2, 0)), (8, 0, 0, 2))

    def test_rooms_of_999(self):
        for problem in EDGES[:7] + EDGES[8:] + random_problems(187, 60, 7):
            if sum(problem[0]) <= 999:
                self.assert_least(problem, (999,) * len(problem[0]), least_of(problem))
        # even these may be too small
        problem = ((0, 999, 999), (0, 999, 999), (0, 9, 9), (0, 0, 0))
        self.assert_least(problem, (999, 999, 0), 999 + 9 * 999)
        self.assertEqual(least_of(problem), 0)
        for last in (0, 999):
            self.assert_least(ONE, (last,), 11)

    def test_one_room_of_0_parts_the_problem(self):
        for problem in random_problems(188, 40, 7, 3):
            if sum(problem[0]) <= 999:
                cut = len(problem[0]) // 2
                rooms = tuple(0 if period == cut - 1 else 999 for period in range(len(problem[0])))
                parts = [tuple(row[:cut] for row in problem), tuple(row[cut:] for row in problem)]
                self.assert_least(problem, rooms, sum(least_of(part) for part in parts))

    def test_the_last_room_does_not_count(self):
        for problem, rooms in cases(189, 40, 5):
            costs = {roomed_cost(problem, rooms[:-1] + (last,)) for last in (0, 1, 999)}
            self.assertEqual(len(costs), 1)

    def test_nothing_demanded(self):
        for rooms in ((0, 0, 0), (999, 999, 999)):
            self.assert_least(NOTHING, rooms, 0)

    def test_great_demands(self):
        source = random.Random(72)
        for problem in great_problems(190, 6):
            for most in (300, 999):
                rooms = tuple(source.randint(0, most) for _ in range(12))
                plan = roomed_plan(problem, rooms)
                cost = plan_cost(problem, plan)
                self.assert_least(problem, rooms, cost)
                self.assertGreaterEqual(cost, least_of(problem))
                drawn = [other for other in moved_plans(plan, source, 600) + moved_plans(problem[0], source, 300)
                         if is_fine_plan(problem, other) and within(problem, rooms, other)]
                self.assertGreater(len(set(drawn)), 20)
                for other in drawn:
                    self.assertGreaterEqual(plan_cost(problem, other), cost)

    def test_a_bound_that_never_holds(self):
        source = random.Random(73)
        for problem in great_problems(191, 5):
            problem = (tuple(demand // 12 for demand in problem[0]),) + problem[1:]
            just_enough = tuple(sum(problem[0][period + 1:]) for period in range(12))
            more = tuple(source.randint(sum(problem[0]), 999) for _ in range(12))
            for rooms in (just_enough, more):
                self.assert_least(problem, rooms, least_of(problem))

    def test_great_demands_that_are_many_times_small_ones(self):
        source = random.Random(74)
        for problem in random_problems(192, 12, 12, 12):
            problem = tuple(tuple(entry % 10 for entry in row) for row in problem)
            rooms = tuple(source.randint(0, 9) for _ in range(12))
            least = least_by_stocks(problem, rooms=rooms)
            self.assert_least(scaled(problem, 111), tuple(111 * room for room in rooms), 111 * least)

    def test_wrong_values(self):
        for call in (roomed_cost, roomed_plan):
            self.assert_problem_checked(call, (9, 9, 9))
            for rooms in bad_entry_rows():
                self.assert_raised(BadRooms, {}, call, SMALL, rooms)
        self.assert_raised(BadProblem, {"part": 0, "index": 0}, roomed_cost, ((-1,), (1,), (1,), (1,)), None)


if __name__ == "__main__":
    unittest.main()
