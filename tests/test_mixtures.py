"""Point 10: corners and mixtures."""

import itertools
import random
import unittest
from fractions import Fraction

from lotplans.errors import BadPoint, BadProblem, NotPositive, TooMany
from lotplans.mixtures import corners, mixture, shows_mixture
from tests.helpers import (
    FINE_POINT, ODD_VALUES, ONE, POSITIVE_EDGES, SMALL, Case, bad_points, breaks_some, interval_plans, mixed_point,
    nudged_point, point_of, positive_problems, read_ratio, told, wild_point,
)

TWO = ((1, 1), (5, 3), (0, 0), (1, 1))
HALF = (((3, 2), (1, 2)), ((1, 1), (1, 2)))
THIN = (((3, 2), (1, 2)), ((1, 1), (1, 4)))
MIXED = (((1, 2), (1, 1), (1, 1)), ((1, 2), (2, 0), (1, 0)))
SEVEN = ((1,) * 7, (2,) * 7, (0,) * 7, (1,) * 7)
SEVEN_POINT = (((7, 1),) + ((0, 1),) * 6, ((1, 1),) + ((0, 1),) * 6)


def all_corners(problem):
    """Point 10's corners, by all interval plans and all marks."""
    many = len(problem[0])
    return sorted((plan, marks) for plan in interval_plans(problem) for marks in itertools.product((0, 1), repeat=many)
                  if all(mark for mark, amount in zip(marks, plan) if amount))


def is_mixture(problem, point, value):
    """Point 10, by its words, for values of the right form."""
    known = all_corners(problem)
    if any(weight[0] <= 0 or (plan, marks) not in known for weight, plan, marks in value):
        return False
    if any(one[1:] >= other[1:] for one, other in zip(value, value[1:])):
        return False
    weights = [read_ratio(piece[0]) for piece in value]
    if sum(weights) != 1:
        return False
    for part in (0, 1):
        for period in range(len(problem[0])):
            whole = sum(weight * piece[part + 1][period] for weight, piece in zip(weights, value))
            if whole != read_ratio(point[part][period]):
                return False
    return True


class Corners(Case):
    def test_against_all_plans_and_marks(self):
        for problem in POSITIVE_EDGES + positive_problems(61, 60, 6):
            found = corners(problem)
            self.assertIs(type(found), list)
            self.assertEqual(found, all_corners(problem))
            self.assertEqual(found, sorted(found))

    def test_how_many(self):
        for many in range(1, 7):
            found = corners(((2,) * many, (1,) * many, (0,) * many, (0,) * many))
            self.assertEqual(len(found), 3 ** (many - 1))
            self.assertEqual({type(mark) for _, marks in found for mark in marks}, {int})

    def test_returned_lists_are_new(self):
        corners(TWO).clear()
        self.assertEqual(corners(TWO), [((1, 1), (1, 1)), ((2, 0), (1, 0)), ((2, 0), (1, 1))])

    def test_wrong_problems(self):
        self.assert_positive_checked(corners)
        self.assert_raised(TooMany, {"most": 6}, corners, SEVEN)
        self.assert_raised(TooMany, {"most": 6}, corners, ((1,) * 12,) * 4)
        self.assert_raised(NotPositive, {"index": 6}, corners, ((1,) * 6 + (0,),) + SEVEN[1:])
        self.assert_raised(BadProblem, {"part": 1, "index": 6}, corners, (SEVEN[0], (1,) * 6 + (None,)) + SEVEN[2:])


class Mixture(Case):
    def assert_mixed(self, problem, point):
        value = mixture(problem, point)
        if breaks_some(problem, point):
            self.assertIsNone(value)
            return False
        self.assertIs(type(value), tuple)
        for weight, plan, marks in value:
            self.assertEqual(told(read_ratio(weight)), weight)
            self.assertEqual({type(x) for x in plan + marks}, {int})
        self.assertTrue(is_mixture(problem, point, value), (problem, point, value))
        self.assertIs(shows_mixture(problem, point, value), True)
        return True

    def test_example(self):
        self.assertEqual(mixture(TWO, HALF), MIXED)
        self.assertIsNone(mixture(TWO, THIN))

    def test_some_points(self):
        source = random.Random(10)
        seen = {make: set() for make in (mixed_point, wild_point, nudged_point)}
        for problem in POSITIVE_EDGES + positive_problems(62, 60, 6):
            for make in seen:
                for _ in range(2):
                    seen[make].add(self.assert_mixed(problem, make(problem, source)))
        self.assertEqual(list(seen.values()), [{True}, {True, False}, {True, False}])

    def test_corners_are_mixtures_of_themselves(self):
        for problem in (ONE, TWO, SMALL):
            for plan, marks in corners(problem):
                self.assertEqual(mixture(problem, point_of(plan, marks)), (((1, 1), plan, marks),))

    def test_points_at_rows(self):
        # all grid points of a small problem, many of them just at a row
        problem = ((1, 2), (1, 1), (0, 0), (0, 0))
        for first, mark in itertools.product(range(0, 13), range(0, 9)):
            self.assert_mixed(problem, point_of((Fraction(first, 4), 3 - Fraction(first, 4)), (1, Fraction(mark, 8))))
        problem = ((1, 1, 1), (1, 1, 1), (0, 0, 0), (0, 0, 0))
        for one, other, mark, more in itertools.product(range(0, 7), range(0, 7), range(0, 5), range(0, 5)):
            if one + other <= 6:
                amounts = (Fraction(one, 2), Fraction(other, 2), 3 - Fraction(one + other, 2))
                self.assert_mixed(problem, point_of(amounts, (1, Fraction(mark, 4), Fraction(more, 4))))

    def test_points_with_several_amounts_that_last_long(self):
        for demands, amounts, marks in (
                ((4, 4, 1, 1), ((20, 3), (32, 15), (2, 3), (8, 15)), ((1, 1), (2, 5), (1, 3), (8, 15))),
                ((1, 1, 1, 3), ((14, 9), (47, 18), (2, 3), (7, 6)), ((1, 1), (13, 18), (1, 6), (5, 9))),
                ((3, 4, 1, 3), ((68, 15), (56, 15), (8, 15), (11, 5)), ((1, 1), (2, 3), (2, 15), (11, 15))),
                ((1, 3, 3, 2), ((25, 7), (23, 7), (8, 7), (1, 1)), ((1, 1), (9, 20), (2, 7), (5, 7)))):
            self.assertTrue(self.assert_mixed((demands, (1,) * 4, (0,) * 4, (0,) * 4), (amounts, marks)))

    def test_marks_without_amounts(self):
        self.assert_mixed(SMALL, point_of((9, 0, 0), (1, Fraction(1, 3), Fraction(2, 3))))
        self.assert_mixed(SMALL, point_of((2, 3, 4), (1, 1, 1)))
        self.assert_mixed(SMALL, point_of((Fraction(7, 2), 3, Fraction(5, 2)), (1, 1, 1)))

    def test_wrong_values(self):
        self.assert_positive_checked(mixture, FINE_POINT)
        for value, index in bad_points():
            self.assert_raised(BadPoint, {"index": index}, mixture, SMALL, value)

    def test_seven_periods(self):
        self.assert_raised(TooMany, {"most": 6}, mixture, SEVEN, SEVEN_POINT)
        self.assert_raised(TooMany, {"most": 6}, shows_mixture, SEVEN, SEVEN_POINT, None)
        self.assert_raised(BadPoint, {"index": None}, mixture, SEVEN, None)
        self.assert_raised(BadPoint, {"index": 14}, shows_mixture, SEVEN, (((1, 1),) * 7, ((0, 1),) * 7), None)
        zero = ((0,) + (1,) * 6,) + SEVEN[1:]
        self.assert_raised(NotPositive, {"index": 0}, mixture, zero, None)
        self.assert_raised(NotPositive, {"index": 0}, shows_mixture, zero, None, None)
        six = ((1,) * 6,) * 4
        self.assertEqual(len(mixture(six, point_of((6, 0, 0, 0, 0, 0), (1, 0, 0, 0, 0, 0)))), 1)


class ShowsMixture(Case):
    def test_changed_mixtures(self):
        source = random.Random(11)
        seen = set()
        for problem in POSITIVE_EDGES[3:] + positive_problems(63, 60, 4):
            point = mixed_point(problem, source)
            value = mixture(problem, point)
            known = all_corners(problem)
            for _ in range(12):
                pieces = [list(piece) for piece in value]
                for _ in range(source.randint(1, 2)):
                    self.change(pieces, known, source)
                changed = tuple(tuple(piece) for piece in pieces)
                answer = shows_mixture(problem, point, changed)
                self.assertIs(answer, is_mixture(problem, point, changed))
                seen.add(answer)
        self.assertEqual(seen, {True, False})

    def change(self, pieces, known, source):
        place = source.randrange(len(pieces)) if pieces else None
        what = source.randrange(6)
        if what == 0 or place is None:
            pieces.append([(1, 2), *source.choice(known)])
        elif what == 1:
            pieces[place][1:] = source.choice(known)
        elif what == 2:
            pieces[place][0] = told(read_ratio(pieces[place][0]) + Fraction(source.choice([-1, 0, 1]), 4))
        elif what == 3:
            pieces.sort(key=lambda piece: piece[1:])
        elif what == 4:
            pieces.insert(source.randrange(len(pieces) + 1), pieces[place])
        else:
            del pieces[place]

    def test_other_mixtures_of_one_point(self):
        point = point_of((Fraction(4), Fraction(5, 2), Fraction(5, 2)), (1, Fraction(3, 4), Fraction(3, 4)))
        problem = ((2, 3, 4), (1, 1, 1), (0, 0, 0), (0, 0, 0))
        value = mixture(problem, point)
        self.assertEqual(value is None, breaks_some(problem, point))
        two = ((1, 1), (0, 0), (0, 0), (0, 0))
        half = point_of((Fraction(3, 2), Fraction(1, 2)), (1, Fraction(3, 4)))
        self.assertIs(shows_mixture(two, half, (
            ((1, 2), (1, 1), (1, 1)), ((1, 4), (2, 0), (1, 0)), ((1, 4), (2, 0), (1, 1)))), True)
        self.assertIs(shows_mixture(two, half, (
            ((1, 2), (1, 1), (1, 1)), ((1, 4), (2, 0), (1, 1)), ((1, 4), (2, 0), (1, 0)))), False)
        self.assertIs(shows_mixture(two, half, (
            ((1, 2), (1, 1), (1, 1)), ((1, 2), (2, 0), (1, 0)))), False)
        self.assertIs(shows_mixture(two, half, (
            ((1, 4), (1, 1), (1, 1)), ((1, 4), (1, 1), (1, 1)), ((1, 4), (2, 0), (1, 0)), ((1, 4), (2, 0), (1, 1)))),
            False)

    def test_plans_that_are_not_interval_plans(self):
        problem = ((1, 1, 1), (1, 1, 1), (0, 0, 0), (0, 0, 0))
        point = point_of((Fraction(3, 2), Fraction(1), Fraction(1, 2)), (1, 1, Fraction(1, 2)))
        self.assertIs(shows_mixture(((2, 2), (1, 1), (0, 0), (0, 0)), point_of((3, 1), (1, 1)), (
            ((1, 1), (3, 1), (1, 1)),)), False)
        self.assertIs(shows_mixture(((2, 2), (1, 1), (0, 0), (0, 0)), point_of((3, 1), (1, 1)), (
            ((1, 2), (2, 2), (1, 1)), ((1, 2), (4, 0), (1, 1)))), True)
        self.assertIs(shows_mixture(problem, point, (
            ((1, 2), (1, 1, 1), (1, 1, 1)), ((1, 2), (2, 1, 0), (1, 1, 0)))), False)
        self.assertIs(shows_mixture(problem, point, (
            ((1, 2), (1, 2, 0), (1, 1, 0)), ((1, 2), (2, 0, 1), (1, 1, 1)))), True)

    def test_weights_and_marks(self):
        self.assertIs(shows_mixture(TWO, HALF, MIXED), True)
        for place in (0, 1):
            for wrong in ((2, 4), (1, 3), (0, 1), (-1, 2), (1, -2), (True, 2), (1, 2, 3), [1, 2], 1, None, "1", (), (1,)):
                pieces = [list(piece) for piece in MIXED]
                pieces[place][0] = wrong
                self.assertIs(shows_mixture(TWO, HALF, tuple(tuple(piece) for piece in pieces)), False)
            for wrong in ((1, 0), (3, -1), (1,), (1, 1, 0), (0, 2), [1, 1], [2, 0], None, 1, "ab", (True, 1), (2, False),
                          (1, True), (2, None), {}, ()):
                pieces = [list(piece) for piece in MIXED]
                pieces[place][1] = wrong
                self.assertIs(shows_mixture(TWO, HALF, tuple(tuple(piece) for piece in pieces)), False)
            for wrong in ((0, 1), (0, 0), (1, 2), (2, 1), (1, -1), (1,), (1, 1, 1), [1, 1], [1, 0], None, 1, "ab",
                          (True, 1), (1, True), (1, False), (True, 0), (1, None), {}, ()):
                pieces = [list(piece) for piece in MIXED]
                pieces[place][2] = wrong
                self.assertIs(shows_mixture(TWO, HALF, tuple(tuple(piece) for piece in pieces)), False)

    def test_weights_that_are_not_above_0(self):
        # all sums are right
        self.assertIs(shows_mixture(TWO, HALF, MIXED + (((0, 1), (2, 0), (1, 1)),)), False)
        self.assertIs(shows_mixture(TWO, HALF, (((0, 1), (1, 1), (1, 1)),) + MIXED[1:]), False)
        three = ((1, 1, 1), (1, 1, 1), (0, 0, 0), (0, 0, 0))
        point = point_of((3, 0, 0), (1, 0, 0))
        plan = (3, 0, 0)
        self.assertIs(shows_mixture(three, point, (((1, 1), plan, (1, 0, 0)),)), True)
        self.assertIs(shows_mixture(three, point, (
            ((1, 1), plan, (1, 0, 1)), ((1, 1), plan, (1, 1, 0)), ((-1, 1), plan, (1, 1, 1)))), False)

    def test_marks_that_are_not_of_corners(self):
        # all sums are right
        self.assertIs(shows_mixture(TWO, THIN, (
            ((1, 4), (1, 1), (1, 0)), ((1, 4), (1, 1), (1, 1)), ((1, 2), (2, 0), (1, 0)))), False)
        full = point_of((Fraction(3, 2), Fraction(1, 2)), (1, 1))
        self.assertIs(shows_mixture(TWO, full, (((1, 2), (1, 1), (1, 1)), ((1, 2), (2, 0), (1, 1)))), True)
        self.assertIs(shows_mixture(TWO, full, (((1, 2), (1, 1), (1, 2)), ((1, 2), (2, 0), (1, 0)))), False)
        self.assertIs(shows_mixture(TWO, full, (((1, 2), (1, 1), (1, 0)), ((1, 2), (2, 0), (1, 2)))), False)
        self.assertIs(shows_mixture(TWO, point_of((1, 1), (1, 0)), (((1, 1), (1, 1), (1, 0)),)), False)
        self.assertIs(shows_mixture(TWO, point_of((2, 0), (1, 1)), (
            ((1, 2), (2, 0), (1, 0)), ((1, 2), (2, 0), (1, 2)))), False)

    def test_forms(self):
        for value in ODD_VALUES + [list(MIXED), (MIXED,), MIXED[:1], MIXED[::-1], MIXED + MIXED, MIXED + (None,),
                                   (MIXED[0], list(MIXED[1])), (MIXED[0], MIXED[1] + (1,)), (MIXED[0], MIXED[1][:2]),
                                   (MIXED[0], MIXED[0]), {0: MIXED}, (None, None), ((), ()), ("abc", "abc")]:
            self.assertIs(shows_mixture(TWO, HALF, value), False)
            self.assertIs(shows_mixture(TWO, THIN, value), False)
        self.assertIs(shows_mixture(TWO, THIN, MIXED), False)

    def test_one_period(self):
        point = (((3, 1),), ((1, 1),))
        self.assertEqual(mixture(ONE, point), (((1, 1), (3,), (1,)),))
        self.assertIs(shows_mixture(ONE, point, (((1, 1), (3,), (1,)),)), True)
        self.assertIs(shows_mixture(ONE, point, (((1, 1), (3,), (True,)),)), False)
        self.assertIs(shows_mixture(ONE, point, (((1, 2), (3,), (1,)),)), False)
        self.assertIs(shows_mixture(ONE, point, (((1, 2), (3,), (1,)), ((1, 2), (3,), (1,)))), False)

    def test_wrong_values(self):
        self.assert_positive_checked(shows_mixture, FINE_POINT, MIXED)
        for value, index in bad_points():
            self.assert_raised(BadPoint, {"index": index}, shows_mixture, SMALL, value, MIXED)
            self.assert_raised(BadPoint, {"index": index}, shows_mixture, SMALL, value, None)


if __name__ == "__main__":
    unittest.main()
