"""Point 11: allocations."""

import itertools
import random
import unittest
from fractions import Fraction

from lotplans.allocation import allocation, shows_allocation
from lotplans.errors import BadPoint, BadProblem, NotPositive
from lotplans.mixtures import mixture
from lotplans.points import broken_row, by_rows, row_gap
from tests.helpers import (
    FINE_POINT, ODD_VALUES, ONE, POSITIVE_EDGES, SMALL, Case, bad_points, breaks_some, gap, mixed_point, nudged_point,
    point_of, positive_problems, read_ratio, told, wild_point,
)
from tests.lp import least_value

TWO = ((1, 1), (5, 3), (0, 0), (1, 1))
HALF = (((3, 2), (1, 2)), ((1, 1), (1, 2)))
THIN = (((3, 2), (1, 2)), ((1, 1), (1, 4)))
HALVES = (((1, 1), (1, 2)), ((0, 1), (1, 2)))
MAKERS = (mixed_point, nudged_point, wild_point)


def is_allocation(problem, point, value):
    """Point 11, by its words, for a tuple of tuples of ratios."""
    demands = problem[0]
    many = len(demands)
    amounts, marks = [[read_ratio(thing) for thing in part] for part in point]
    parts = [[read_ratio(thing) for thing in row] for row in value]
    for start in range(many):
        for goal in range(many):
            most = 0 if goal < start else marks[start] * demands[goal]
            if not 0 <= parts[start][goal] <= most:
                return False
    for period in range(many):
        if sum(parts[period]) != amounts[period] or sum(row[period] for row in parts) != demands[period]:
            return False
    return True


def is_possible(problem, point):
    """Whether there is an allocation, by the simplex method."""
    demands = problem[0]
    many = len(demands)
    places = [(start, goal) for start in range(many) for goal in range(start, many)]
    at_least, equal = [], []
    for one in places:
        most = read_ratio(point[1][one[0]]) * demands[one[1]]
        at_least.append(([-int(place == one) for place in places], -most))
    for period in range(many):
        equal.append(([int(start == period) for start, _ in places], read_ratio(point[0][period])))
        equal.append(([int(goal == period) for _, goal in places], demands[period]))
    return least_value([0] * len(places), at_least, equal) is not None


class Examples(Case):
    def test_example(self):
        answers = [broken_row(TWO, HALF), broken_row(TWO, THIN), row_gap(TWO, THIN, (1, (1,))), mixture(TWO, HALF),
                   by_rows(TWO)[0]]
        self.assertEqual(answers, [None, (1, (1,)), (-1, 4), (((1, 2), (1, 1), (1, 1)), ((1, 2), (2, 0), (1, 0))),
                                   (6, 1)])

    def test_the_points_of_the_example(self):
        self.assertEqual(allocation(TWO, HALF), HALVES)
        self.assertIsNone(allocation(TWO, THIN))


class Allocation(Case):
    def assert_fine(self, problem, point):
        value = allocation(problem, point)
        if value is None:
            return False
        many = len(problem[0])
        self.assertEqual((type(value), len(value)), (tuple, many))
        for row in value:
            self.assertEqual((type(row), len(row)), (tuple, many))
            for thing in row:
                self.assertEqual(told(read_ratio(thing)), thing)
        self.assertTrue(is_allocation(problem, point, value), (problem, point, value))
        self.assertIs(shows_allocation(problem, point, value), True)
        return True

    def test_none_just_if_a_row_is_broken(self):
        source = random.Random(21)
        seen = {make: set() for make in MAKERS}
        for problem in POSITIVE_EDGES + positive_problems(111, 80, 6):
            for make in MAKERS:
                for _ in range(2):
                    point = make(problem, source)
                    answer = self.assert_fine(problem, point)
                    self.assertIs(answer, not breaks_some(problem, point))
                    seen[make].add(answer)
        self.assertEqual(list(seen.values()), [{True}, {True, False}, {True, False}])

    def test_none_just_if_there_is_none(self):
        source = random.Random(22)
        seen = set()
        for problem in positive_problems(112, 40, 4):
            for make in MAKERS:
                point = make(problem, source)
                answer = self.assert_fine(problem, point)
                self.assertIs(answer, is_possible(problem, point))
                seen.add(answer)
        self.assertEqual(seen, {True, False})

    def test_points_at_rows(self):
        # all grid points of a small problem, many of them just at a row
        problem = ((1, 1, 1), (1, 1, 1), (0, 0, 0), (0, 0, 0))
        for one, other, mark, more in itertools.product(range(0, 7), range(0, 7), range(0, 5), range(0, 5)):
            if one + other <= 6:
                amounts = (Fraction(one, 2), Fraction(other, 2), 3 - Fraction(one + other, 2))
                point = point_of(amounts, (1, Fraction(mark, 4), Fraction(more, 4)))
                self.assertIs(self.assert_fine(problem, point), not breaks_some(problem, point))

    def test_a_mark_a_little_too_small(self):
        # the mark of the second period allows just what it makes, for the demands 2 and 1 behind it
        problem = ((1, 2, 1), (1, 1, 1), (0, 0, 0), (0, 0, 0))
        for less in (0, Fraction(1, 1000), Fraction(1, 10 ** 9)):
            point = point_of((2, 2, 0), (1, Fraction(2, 3) - less, 0))
            self.assertIs(self.assert_fine(problem, point), less == 0)
            self.assertEqual(gap(problem, point, (2, (1,))) < 0, less != 0)

    def test_twelve_periods(self):
        source = random.Random(23)
        seen = set()
        for problem in positive_problems(113, 40, 12, 7):
            for make in MAKERS:
                point = make(problem, source)
                answer = self.assert_fine(problem, point)
                self.assertIs(answer, broken_row(problem, point) is None)
                seen.add((make, answer))
        self.assertIn((mixed_point, True), seen)
        self.assertNotIn((mixed_point, False), seen)
        self.assertIn((wild_point, False), seen)

    def test_plans_are_told_by_their_lots(self):
        self.assertEqual(allocation(SMALL, point_of((5, 0, 4), (1, 0, 1))),
                         (((2, 1), (3, 1), (0, 1)), ((0, 1),) * 3, ((0, 1), (0, 1), (4, 1))))
        self.assertEqual(allocation(ONE, point_of((3,), (1,))), (((3, 1),),))

    def test_wrong_values(self):
        self.assert_positive_checked(allocation, FINE_POINT)
        for value, index in bad_points():
            self.assert_raised(BadPoint, {"index": index}, allocation, SMALL, value)


class ShowsAllocation(Case):
    def test_moved_ones(self):
        source = random.Random(24)
        seen = set()
        for problem in POSITIVE_EDGES[5:] + positive_problems(114, 60, 5, 2):
            point = mixed_point(problem, source)
            value = allocation(problem, point)
            for _ in range(15):
                parts = [[read_ratio(thing) for thing in row] for row in value]
                self.move(parts, source)
                changed = tuple(tuple(told(part) for part in row) for row in parts)
                answer = shows_allocation(problem, point, changed)
                self.assertIs(answer, is_allocation(problem, point, changed))
                seen.add((answer, changed == value))
        self.assertEqual(seen, {(True, True), (True, False), (False, False)})

    def move(self, parts, source):
        """Moves a little around four places, so that all sums stay, or a little at one place or two."""
        many = len(parts)
        starts = [source.randrange(many) for _ in range(2)]
        goals = [source.randrange(many) for _ in range(2)]
        little = Fraction(source.choice([-2, -1, 1, 2]), source.choice([1, 2, 5, 100]))
        what = source.randrange(5)
        parts[starts[0]][goals[0]] += little
        if what != 0:
            parts[starts[0]][goals[1]] -= little
        if what > 1:
            parts[starts[1]][goals[0]] -= little
            parts[starts[1]][goals[1]] += little

    def test_other_allocations_of_one_point(self):
        problem = ((1, 1, 2), (1, 1, 1), (0, 0, 0), (0, 0, 0))
        point = point_of((2, 1, 1), (1, 1, 1))
        one = (((1, 1), (0, 1), (1, 1)), ((0, 1), (1, 1), (0, 1)), ((0, 1), (0, 1), (1, 1)))
        other = (((1, 1), (1, 1), (0, 1)), ((0, 1), (0, 1), (1, 1)), ((0, 1), (0, 1), (1, 1)))
        for value in (one, other):
            self.assertIs(shows_allocation(problem, point, value), True)

    def test_each_thing_that_is_asked(self):
        full = point_of((1, 1), (1, 1))
        self.assertIs(shows_allocation(TWO, full, (((1, 1), (0, 1)), ((0, 1), (1, 1)))), True)
        # for an earlier demand
        self.assertIs(shows_allocation(TWO, full, (((0, 1), (1, 1)), ((1, 1), (0, 1)))), False)
        # more than the mark allows
        self.assertIs(shows_allocation(TWO, HALF, HALVES), True)
        self.assertIs(shows_allocation(TWO, THIN, HALVES), False)
        self.assertIs(shows_allocation(TWO, point_of((Fraction(3, 2), Fraction(1, 2)), (1, Fraction(499, 1000))),
                                       HALVES), False)
        # more than the mark allows for one demand of two
        three = ((1, 1, 1), (1, 1, 1), (0, 0, 0), (0, 0, 0))
        half = Fraction(1, 2)
        for first, second, last, fine in (
                (((1, 1), (1, 2), (0, 1)), ((0, 1), (1, 2), (1, 2)), (1, 2), True),
                (((1, 1), (1, 4), (1, 4)), ((0, 1), (3, 4), (1, 4)), (1, 2), False),
                (((1, 1), (3, 4), (0, 1)), ((0, 1), (1, 4), (3, 4)), (1, 4), False)):
            rest = read_ratio(last)
            point = point_of((2 - rest, 1, rest), (1, half, half))
            self.assertIs(shows_allocation(three, point, (first, second, ((0, 1), (0, 1), last))), fine)
        # another sum of an amount, of a demand
        self.assertIs(shows_allocation(TWO, point_of((2, 0), (1, 1)), (((1, 1), (0, 1)), ((0, 1), (1, 1)))), False)
        self.assertIs(shows_allocation(TWO, full, (((1, 2), (1, 2)), ((0, 1), (1, 1)))), False)
        self.assertIs(shows_allocation(TWO, full, (((1, 1), (0, 1)), ((0, 1), (1, 2)))), False)
        # less than 0
        point = point_of((1, 1, 1), (1, 1, 1))
        for low, fine in (((0, 1), True), ((-1, 2), False)):
            part = told(-read_ratio(low))
            rest = told(1 + read_ratio(low))
            value = (((1, 1), part, low), ((0, 1), rest, part), ((0, 1), (0, 1), (1, 1)))
            self.assertIs(shows_allocation(three, point, value), fine)

    def test_things_that_are_no_ratios(self):
        full = point_of((1, 1), (1, 1))
        fine = (((1, 1), (0, 1)), ((0, 1), (1, 1)))
        self.assertIs(shows_allocation(TWO, full, fine), True)
        for start, goal in itertools.product(range(2), repeat=2):
            for thing in (0, 1, None, True, "1", (), (1,), (1, 1, 1), [1, 1], [0, 1], (2, 2), (0, 2), (0, -1), (-1, -1),
                          (True, 1), (1, True), (False, 1), (0, True), (1, 0), (0, 0), ("1", 1), {}, ((1, 1),)):
                rows = [list(row) for row in fine]
                rows[start][goal] = thing
                self.assertIs(shows_allocation(TWO, full, tuple(tuple(row) for row in rows)), False, thing)

    def test_forms(self):
        full = point_of((1, 1), (1, 1))
        fine = (((1, 1), (0, 1)), ((0, 1), (1, 1)))
        for value in ODD_VALUES + [list(fine), (list(fine[0]), fine[1]), (fine[0], list(fine[1])), fine[:1],
                                   fine + (fine[1],), (fine[0], fine[1][:1]), (fine[0] + ((0, 1),), fine[1]),
                                   (fine[0], fine[1] + ((0, 1),)), fine[0], {0: fine[0], 1: fine[1]}, (None, None),
                                   ("ab", "ab"), ((), ()), (fine[0], None)]:
            self.assertIs(shows_allocation(TWO, full, value), False)
            self.assertIs(shows_allocation(TWO, THIN, value), False)

    def test_wrong_values(self):
        self.assert_positive_checked(shows_allocation, FINE_POINT, HALVES)
        for value, index in bad_points():
            self.assert_raised(BadPoint, {"index": index}, shows_allocation, SMALL, value, HALVES)
            self.assert_raised(BadPoint, {"index": index}, shows_allocation, SMALL, value, None)

    def test_order_of_errors(self):
        bad = ((0, 1), (1, 1), (1, 1), (1, -1))
        zero = ((1, 0), (1, 1), (1, 1), (1, 1))
        self.assert_raised(BadProblem, {"part": 3, "index": 1}, shows_allocation, bad, None, None)
        self.assert_raised(NotPositive, {"index": 1}, shows_allocation, zero, None, None)
        self.assert_raised(BadPoint, {"index": None}, shows_allocation, TWO, None, None)
        self.assert_raised(BadPoint, {"index": None}, allocation, TWO, None)


if __name__ == "__main__":
    unittest.main()
