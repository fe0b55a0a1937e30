"""Points 7 and 8: prices, groups and shares."""

import itertools
import random
import unittest
from fractions import Fraction

from lotplans.errors import BadGroup, BadParts, BadProblem
from lotplans.prices import group_cost, prices, shares, shows_prices, shows_shares
from tests.helpers import (
    EDGES, NOTHING, ODD_VALUES, ONE, SMALL, Case, bad_parts, group_least, kept, least_of, random_parts, random_problems,
    read_ratio, told,
)

PARTS = ((2, 0, 0), (0, 3, 4))


def are_prices(problem, value):
    """Point 7, by its words."""
    demands = problem[0]
    many = len(demands)
    if any(value[k] != 0 for k in range(many) if demands[k] == 0) or sum(value) != least_of(problem):
        return False
    for start in range(many):
        above = [value[k] - demands[k] * kept(problem, start, k) for k in range(start, many)]
        if problem[1][start] < sum(x for x in above if x > 0):
            return False
    return True


def groups(many):
    return [group for size in range(many + 1) for group in itertools.combinations(range(many), size)]


def are_shares(problem, parts, fractions):
    """Point 8, by its words."""
    if sum(fractions) != least_of(problem):
        return False
    return all(sum(fractions[member] for member in group) <= group_least(problem, parts, group)
               for group in groups(len(parts)))


def cases(seed, times, longest):
    source = random.Random(seed)
    return [(problem, random_parts(problem, source)) for problem in EDGES[:7] + random_problems(seed, times, longest)]


class Prices(Case):
    def test_example(self):
        answers = [shows_prices(SMALL, (10, 3, 8)), shows_prices(SMALL, (7, 7, 7)), group_cost(SMALL, PARTS, (1,))]
        self.assertEqual(answers, [True, False, 14])

    def test_prices_are_prices(self):
        for problem in EDGES + random_problems(41, 300, 7) + random_problems(42, 10, 12, 12):
            value = prices(problem)
            self.assertIs(type(value), tuple)
            self.assertEqual([type(price) for price in value], [int] * len(problem[0]))
            self.assertTrue(are_prices(problem, value), (problem, value))
            self.assertIs(shows_prices(problem, value), True)

    def test_changed_prices(self):
        source = random.Random(8)
        seen = set()
        for problem in random_problems(43, 250, 6):
            value = prices(problem)
            for _ in range(12):
                changed = list(value)
                changed[source.randrange(len(value))] += source.choice([-3, -1, 0, 1])
                if source.random() < 0.8:
                    changed[source.randrange(len(value))] += sum(value) - sum(changed)
                answer = shows_prices(problem, tuple(changed))
                self.assertIs(answer, are_prices(problem, changed))
                seen.add(answer)
        self.assertEqual(seen, {True, False})

    def test_all_tuples_of_small_problems(self):
        for problem in (SMALL, ((1, 0, 2), (3, 1, 2), (1, 0, 1), (0, 1, 0)), ((1, 1, 1), (2, 2, 0), (0, 1, 0), (1, 0, 0)),
                        ((0, 1, 1), (2, 5, 3), (1, 0, 1), (0, 1, 2))):
            for value in itertools.product(range(-2, least_of(problem) + 2), repeat=2):
                whole = value + (least_of(problem) - sum(value),)
                self.assertIs(shows_prices(problem, whole), are_prices(problem, whole))
                more = value + (whole[2] + 1,)
                self.assertIs(shows_prices(problem, more), False)

    def test_what_is_asked_of_prices(self):
        # nothing demanded, so nothing is asked
        self.assertIs(shows_prices(NOTHING, (0, 0, 0)), True)
        self.assertIs(shows_prices(NOTHING, (1, -1, 0)), False)
        # the setup is the sum at the most
        self.assertIs(shows_prices(((1, 1), (5, 9), (0, 0), (0, 0)), (5, 0)), True)
        self.assertIs(shows_prices(((1, 1), (5, 9), (0, 0), (0, 0)), (0, 5)), True)
        self.assertIs(shows_prices(((1, 1), (5, 9), (0, 0), (0, 0)), (6, -1)), False)
        self.assertIs(shows_prices(ONE, (11,)), True)
        self.assertIs(shows_prices(ONE, (10,)), False)

    def test_values_of_all_kinds(self):
        for value in ODD_VALUES + [[10, 3, 8], (10, 3), (10, 3, 8, 0), (10, 3, "8"), (10, 3, None), ((10,), 3, 8)]:
            self.assertIs(shows_prices(SMALL, value), False)
        self.assertIs(shows_prices(((1,), (1,), (0,), (0,)), (1,)), True)
        self.assertIs(shows_prices(((1,), (1,), (0,), (0,)), (True,)), False)
        self.assertIs(shows_prices(((0,), (1,), (0,), (0,)), (0,)), True)
        self.assertIs(shows_prices(((0,), (1,), (0,), (0,)), (False,)), False)

    def test_wrong_problems(self):
        self.assert_problem_checked(prices)
        self.assert_problem_checked(shows_prices, (10, 3, 8))


class Groups(Case):
    def test_all_groups(self):
        for problem, parts in cases(44, 40, 5):
            for group in groups(len(parts)):
                self.assertEqual(group_cost(problem, parts, group), group_least(problem, parts, group))
            self.assertEqual(group_cost(problem, parts, ()), 0)
            self.assertEqual(group_cost(problem, parts, tuple(range(len(parts)))), least_of(problem))

    def test_wrong_groups(self):
        fine = [(), (0,), (1,), (0, 1)]
        odd = [value for value in ODD_VALUES if not any(value == group and type(value) is tuple for group in fine)]
        for value in odd + [(True,), (False,), (0, True), (0, 0), (1, 0), (2,), (-1,), (0, 2), (0, None), [0], [], {}, "0"]:
            self.assert_raised(BadGroup, {}, group_cost, SMALL, PARTS, value)
        for value in fine:
            self.assertIs(type(group_cost(SMALL, PARTS, value)), int)

    def test_wrong_parts(self):
        for parts, index in bad_parts():
            self.assert_raised(BadParts, {"index": index}, group_cost, SMALL, parts, (0,))
            self.assert_raised(BadParts, {"index": index}, group_cost, SMALL, parts, "x")
            self.assert_raised(BadParts, {"index": index}, shares, SMALL, parts)
            self.assert_raised(BadParts, {"index": index}, shows_shares, SMALL, parts, ())
            self.assert_raised(BadParts, {"index": index}, shows_shares, SMALL, parts, None)

    def test_as_many_members_as_allowed(self):
        self.assertEqual(group_cost(SMALL, ((2, 3, 4),), (0,)), 21)
        self.assertEqual(group_cost(SMALL, ((2, 3, 4),) + ((0, 0, 0),) * 5, (0, 5)), 21)
        self.assertEqual(group_cost(SMALL, ((2, 3, 4),) + ((0, 0, 0),) * 5, (1, 2, 3, 4, 5)), 0)

    def test_wrong_problems(self):
        self.assert_problem_checked(group_cost, PARTS, (1,))
        self.assert_problem_checked(shares, PARTS)
        self.assert_problem_checked(shows_shares, PARTS, ((10, 1), (11, 1)))


class Shares(Case):
    def test_shares_are_shares(self):
        for problem, parts in cases(45, 60, 6):
            value = shares(problem, parts)
            self.assertIs(type(value), tuple)
            self.assertEqual(len(value), len(parts))
            for thing in value:
                self.assertEqual(told(read_ratio(thing)), thing)
            self.assertTrue(are_shares(problem, parts, [read_ratio(thing) for thing in value]))
            self.assertIs(shows_shares(problem, parts, value), True)

    def test_changed_shares(self):
        source = random.Random(9)
        seen = set()
        for problem, parts in cases(46, 60, 4):
            value = [read_ratio(thing) for thing in shares(problem, parts)]
            for _ in range(8):
                changed = list(value)
                one, other = source.randrange(len(value)), source.randrange(len(value))
                moved = Fraction(source.randint(-3, 8), source.choice([1, 2, 5]))
                changed[one] += moved
                changed[other] -= moved if source.random() < 0.8 else 0
                answer = shows_shares(problem, parts, tuple(told(x) for x in changed))
                self.assertIs(answer, are_shares(problem, parts, changed))
                seen.add(answer)
        self.assertEqual(seen, {True, False})

    def test_each_group_counts(self):
        # three members, of whom two alone could do it for less
        problem = ((3, 0), (12, 99), (0, 0), (0, 0))
        parts = ((1, 0), (1, 0), (1, 0))
        self.assertIs(shows_shares(problem, parts, ((12, 1), (0, 1), (0, 1))), True)
        self.assertIs(shows_shares(problem, parts, ((4, 1), (4, 1), (4, 1))), True)
        self.assertIs(shows_shares(problem, parts, ((13, 1), (-1, 1), (0, 1))), False)
        self.assertIs(shows_shares(problem, parts, ((7, 1), (6, 1), (-1, 1))), False)
        self.assertIs(shows_shares(problem, parts, ((13, 2), (11, 2), (0, 1))), True)
        self.assertIs(shows_shares(problem, parts, ((4, 1), (4, 1), (3, 1))), False)

    def test_a_member_without_demands_pays_nothing(self):
        parts = ((2, 3, 4), (0, 0, 0))
        self.assertEqual(shares(SMALL, parts)[1], (0, 1))
        self.assertIs(shows_shares(SMALL, parts, ((21, 1), (0, 1))), True)
        self.assertIs(shows_shares(SMALL, parts, ((20, 1), (1, 1))), False)

    def test_pairs_that_are_no_ratios(self):
        self.assertIs(shows_shares(SMALL, PARTS, ((10, 1), (11, 1))), True)
        for thing in ((20, 2), (-10, -1), (10, 1, 1), (10,), [10, 1], 10, "10", None, (10, True), (True, 1), ((10, 1),),
                      (10, 0), ("10", 1), {}, ()):
            self.assertIs(shows_shares(SMALL, PARTS, (thing, (11, 1))), False)
            self.assertIs(shows_shares(SMALL, PARTS, ((10, 1), thing)), False)
        zero = ((0, 0, 0), (1, 1, 1), (0, 0, 0), (0, 0, 0))
        self.assertIs(shows_shares(zero, ((0, 0, 0),), ((0, 1),)), True)
        for thing in ((0, 2), (0, -1), (0, 0), (False, 1), (0, True)):
            self.assertIs(shows_shares(zero, ((0, 0, 0),), (thing,)), False)
        one = ((1,), (1,), (0,), (0,))
        self.assertIs(shows_shares(one, ((1,),), ((1, 1),)), True)
        self.assertIs(shows_shares(one, ((1,),), ((True, 1),)), False)

    def test_values_of_all_kinds(self):
        for value in ODD_VALUES + [[(10, 1), (11, 1)], ((21, 1),), ((10, 1), (11, 1), (0, 1)), ((10, 1), 11)]:
            self.assertIs(shows_shares(SMALL, PARTS, value), False)

    def test_order_of_errors(self):
        bad = ((1,), (1,), (1,), (-1,))
        self.assert_raised(BadProblem, {"part": 3, "index": 0}, group_cost, bad, "x", "y")
        self.assert_raised(BadParts, {"index": 1}, group_cost, ONE, ((2,),), "y")
        self.assert_raised(BadGroup, {}, group_cost, ONE, ((3,),), "y")


if __name__ == "__main__":
    unittest.main()
