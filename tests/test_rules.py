"""Points 8, 15 and 16: even shares, side costs, and plans by rules."""

import itertools
import random
import unittest
from fractions import Fraction

from lotplans.errors import BadParts, BadProblem, BadRule
from lotplans.prices import shares
from lotplans.rules import even_shares, rule_plan, supported, tradeoffs
from tests.helpers import (
    EDGES, FAR, NOTHING, ODD_VALUES, ONE, SMALL, Case, bad_parts, group_least, interval_plans, least_of, plan_cost,
    random_parts, random_problems, read_ratio, start_list, told,
)

RULES = ("balance", "meal", "unit")
PARTS = ((2, 0, 0), (0, 3, 4))


def side_costs(problem):
    """The side costs of all interval plans, each pair once."""
    found = set()
    for plan in interval_plans(problem):
        paid = sum(problem[1][period] for period in start_list(plan))
        found.add((paid, plan_cost(problem, plan) - paid))
    return found


def best_of(pairs):
    return tuple(sorted(pair for pair in pairs if not any(
        other != pair and other[0] <= pair[0] and other[1] <= pair[1] for other in pairs)))


def is_least(pairs, pair, factor):
    return all(pair[0] * factor + pair[1] <= other[0] * factor + other[1] for other in pairs)


def factors_of(pairs):
    """0, all factors at which two pairs cost the same, some between them and one behind all of them."""
    found = {Fraction(0)}
    for one, other in itertools.combinations(sorted(pairs), 2):
        if one[0] != other[0]:
            found.add(Fraction(one[1] - other[1], other[0] - one[0]))
    found = sorted(factor for factor in found if factor >= 0)
    between = [(one + other) / 2 for one, other in zip(found, found[1:])]
    return sorted(found + between + [found[-1] + 1])


def supported_by_words(pairs):
    """supported, from the pairs that tradeoffs tells."""
    factors = factors_of(pairs)
    fits = {}
    for pair in pairs:
        fits[pair] = [factor for factor in factors if is_least(pairs, pair, factor)]
    told_ones = []
    for pair in sorted(pairs):
        others = [other for other in pairs if other != pair and set(fits[pair]) <= set(fits[other])]
        if fits[pair] and not others:
            told_ones.append((pair, told(min(fits[pair]))))
    return tuple(told_ones)


class Tradeoffs(Case):
    def test_example(self):
        self.assertEqual(tradeoffs(FAR), ((4, 38), (8, 2), (12, 0)))

    def test_against_all_interval_plans(self):
        most = 0
        for problem in EDGES[:7] + EDGES[11:] + random_problems(151, 200, 7):
            answer = tradeoffs(problem)
            self.assertIs(type(answer), tuple)
            self.assertEqual(answer, best_of(side_costs(problem)))
            self.assertEqual(list(answer), sorted(set(answer)))
            most = max(most, len(answer))
        self.assertGreater(most, 6)

    def test_twelve_periods(self):
        for problem in EDGES[7:11] + random_problems(152, 2, 12, 12):
            self.assertEqual(tradeoffs(problem), best_of(side_costs(problem)))

    def test_each_pair_once(self):
        # all plans have the same side costs
        self.assertEqual(tradeoffs(((1,) * 5, (0,) * 5, (0,) * 5, (0,) * 5)), ((0, 0),))
        # one start costs the same at each of two periods
        self.assertEqual(tradeoffs(((0, 2), (3, 3), (1, 1), (0, 0))), ((3, 2),))
        # the same other costs with more setups, the same setups with other costs that are more
        self.assertEqual(tradeoffs(((1, 1), (2, 2), (1, 1), (0, 0))), ((2, 2),))
        self.assertEqual(tradeoffs(((1, 1), (2, 0), (0, 1), (0, 0))), ((2, 0),))
        self.assertEqual(tradeoffs(((1, 1), (2, 0), (0, 0), (1, 0))), ((2, 0),))

    def test_no_start(self):
        self.assertEqual(tradeoffs(NOTHING), ((0, 0),))
        self.assertEqual(tradeoffs(ONE), ((5, 6),))

    def test_wrong_problems(self):
        self.assert_problem_checked(tradeoffs)


class Supported(Case):
    def test_example(self):
        self.assertEqual(supported(FAR), (((4, 38), (9, 1)), ((8, 2), (1, 2)), ((12, 0), (0, 1))))

    def assert_fine(self, problem):
        pairs = best_of(side_costs(problem))
        answer = supported(problem)
        self.assertIs(type(answer), tuple)
        self.assertEqual(answer, supported_by_words(pairs))
        paid = [pair[0] for pair, _ in answer]
        self.assertEqual(paid, sorted(set(paid)))
        self.assertEqual(answer[-1][1], (0, 1))
        for at, (pair, factor) in enumerate(answer):
            self.assertEqual(told(read_ratio(factor)), factor)
            self.assertTrue(is_least(pairs, pair, read_ratio(factor)))
            most = read_ratio(answer[at - 1][1]) if at else read_ratio(factor) + 10 ** 9
            self.assertTrue(is_least(pairs, pair, most))
            self.assertFalse(at and is_least(pairs, pair, most + Fraction(1, 10 ** 9)))
        return len(pairs) - len(answer)

    def test_against_all_interval_plans(self):
        left_out = 0
        for problem in EDGES[:7] + EDGES[11:] + random_problems(153, 150, 7):
            left_out += self.assert_fine(problem) > 0
        self.assertGreater(left_out, 10)

    def test_twelve_periods(self):
        for problem in EDGES[7:11]:
            self.assert_fine(problem)

    def test_pairs_on_one_line_are_left_out(self):
        # each further start costs 1 more and spares 1
        problem = ((1, 0, 1), (0, 1, 2), (1, 0, 0), (1, 1, 1))
        self.assertEqual(tradeoffs(problem), ((0, 4), (1, 2), (2, 1)))
        self.assertEqual(supported(problem), (((0, 4), (2, 1)), ((1, 2), (1, 1)), ((2, 1), (0, 1))))
        problem = ((1, 0, 1), (0, 1, 2), (1, 1, 0), (1, 1, 1))
        self.assertEqual(tradeoffs(problem), ((0, 4), (1, 3), (2, 1)))
        self.assertEqual(supported(problem), (((0, 4), (3, 2)), ((2, 1), (0, 1))))
        problem = ((1, 0, 1), (0, 1, 2), (1, 0, 0), (0, 1, 1))
        self.assertEqual(tradeoffs(problem), ((0, 3), (1, 2), (2, 1)))
        self.assertEqual(supported(problem), (((0, 3), (1, 1)), ((2, 1), (0, 1))))

    def test_one_pair(self):
        self.assertEqual(supported(NOTHING), (((0, 0), (0, 1)),))
        self.assertEqual(supported(ONE), (((5, 6), (0, 1)),))

    def test_the_least_cost_is_that_at_the_factor_1(self):
        for problem in EDGES + random_problems(154, 100, 12):
            self.assertEqual(min(sum(pair) for pair, _ in supported(problem)), min(map(sum, tradeoffs(problem))))
        for problem in random_problems(155, 60, 7):
            self.assertEqual(min(sum(pair) for pair, _ in supported(problem)), least_of(problem))

    def test_wrong_problems(self):
        self.assert_problem_checked(supported)


def kept_for(problem, start, behind):
    """What keeping the demands from start up to, but without, behind costs, its holdings alone."""
    total = 0
    for goal in range(start, behind):
        for period in range(start, goal):
            total += problem[0][goal] * problem[3][period]
    return total


def lets(problem, rule, start, many):
    """Whether a rule lets a lot that covers so many periods cover the next one, by the words of point 16."""
    setup = problem[1][start]
    before, after = [kept_for(problem, start, start + k) for k in (many, many + 1)]
    if rule == "balance":
        return after <= setup
    if rule == "meal":
        return Fraction(setup + after, many + 1) <= Fraction(setup + before, many)
    less, more = [sum(problem[0][start:start + k]) for k in (many, many + 1)]
    return Fraction(setup + after, more) <= Fraction(setup + before, less)


def plan_by_rule(problem, rule):
    """rule_plan, by the words of point 16, with its steps: (start, periods covered)."""
    demands = problem[0]
    plan, steps = [0] * len(demands), []
    period = 0
    while period < len(demands):
        if demands[period] == 0:
            period += 1
            continue
        many = 1
        while period + many < len(demands) and lets(problem, rule, period, many):
            many += 1
        plan[period] = sum(demands[period:period + many])
        steps.append((period, many))
        period += many
    return tuple(plan), steps


class Rules(Case):
    def test_against_its_words(self):
        seen = {rule: set() for rule in RULES}
        for problem in EDGES + random_problems(156, 300, 12):
            for rule in RULES:
                plan, steps = plan_by_rule(problem, rule)
                answer = rule_plan(problem, rule)
                self.assertEqual(answer, plan)
                self.assertIs(type(answer), tuple)
                seen[rule].update(many for _, many in steps)
        self.assertTrue(all(set(range(1, 8)) <= lengths for lengths in seen.values()))

    def test_they_are_interval_plans(self):
        for problem in random_problems(157, 60, 6):
            for rule in RULES:
                self.assertIn(rule_plan(problem, rule), interval_plans(problem))

    def test_balance_step_by_step(self):
        # keeping costs 0, 3, 3 + 8 = 11
        costs = ((9, 9, 9), (1, 1, 1))
        for setup, plan in ((2, (2, 3, 4)), (3, (5, 0, 4)), (10, (5, 0, 4)), (11, (9, 0, 0))):
            problem = ((2, 3, 4), (setup, 0, 0)) + costs
            self.assertEqual(rule_plan(problem, "balance"), plan)
        # the setup of the start counts, not those of later periods
        self.assertEqual(rule_plan(((2, 3, 4), (3, 99, 0)) + costs, "balance"), (5, 0, 4))
        self.assertEqual(rule_plan(((2, 3, 4), (2, 99, 0)) + costs, "balance"), (2, 7, 0))

    def test_meal_step_by_step(self):
        # 6, (6 + 3) / 2 = 4.5, (6 + 3 + 8) / 3 > 4.5
        self.assertEqual(rule_plan(((2, 3, 4), (6, 6, 6), (0, 0, 0), (1, 1, 1)), "meal"), (5, 0, 4))
        # 3, (3 + 3) / 2 = 3: as much is let go on
        self.assertEqual(rule_plan(((2, 3, 4), (3, 3, 3), (0, 0, 0), (1, 1, 1)), "meal"), (5, 0, 4))
        self.assertEqual(rule_plan(((2, 4, 4), (3, 4, 3), (0, 0, 0), (1, 1, 1)), "meal"), (2, 8, 0))
        # it ends at the first period that is not let, although 10, 15, 10 would fall again
        self.assertEqual(rule_plan(((1, 20, 0, 0), (10, 9, 9, 9), (0,) * 4, (1,) * 4), "meal"), (1, 20, 0, 0))

    def test_unit_step_by_step(self):
        # 6 / 2, (6 + 3) / 5, (6 + 3 + 8) / 9 = 1.89 > 1.8
        self.assertEqual(rule_plan(((2, 3, 4), (6, 6, 6), (0, 0, 0), (1, 1, 1)), "unit"), (5, 0, 4))
        # 7 / 2, 10 / 5 = 2, 18 / 9 = 2: as much is let go on
        self.assertEqual(rule_plan(((2, 3, 4), (7, 7, 7), (0, 0, 0), (1, 1, 1)), "unit"), (9, 0, 0))
        self.assertEqual(rule_plan(((2, 3, 4), (7, 7, 7), (0, 0, 0), (1, 1, 1)), "meal"), (5, 0, 4))

    def test_units_do_not_count(self):
        for problem in random_problems(158, 40, 8):
            other = problem[:2] + (tuple(7 * k % 5 for k in range(len(problem[0]))), problem[3])
            for rule in RULES:
                self.assertEqual(rule_plan(problem, rule), rule_plan(other, rule))

    def test_demands_of_0(self):
        for rule in RULES:
            # ahead
            self.assertEqual(rule_plan(((0, 0, 4), (9, 9, 9), (0, 0, 0), (0, 0, 0)), rule), (0, 0, 4))
            # all, and one period
            self.assertEqual(rule_plan(NOTHING, rule), (0, 0, 0))
            self.assertEqual(rule_plan(ONE, rule), (3,))
            self.assertEqual(rule_plan(((0,), (1,), (1,), (1,)), rule), (0,))
            # within a lot, and between lots: the next start is at the next demand
            self.assertEqual(rule_plan(((4, 0, 4), (9, 9, 9), (0, 0, 0), (0, 0, 0)), rule), (8, 0, 0))
            self.assertEqual(rule_plan(((4, 0, 4), (1, 1, 1), (0, 0, 0), (9, 9, 9)), rule), (4, 0, 4))
            self.assertEqual(rule_plan(((0, 4, 0, 0, 4, 0), (1,) * 6, (0,) * 6, (9,) * 6), rule), (0, 4, 0, 0, 4, 0))
        # the periods without a demand count among those of "meal", not the amounts of "unit":
        # 4, 4 / 2, 4 / 3, (4 + 3) / 4 > 4 / 3; 4 / 2, 4 / 2, 4 / 2, (4 + 3) / 3 > 2
        problem = ((2, 0, 0, 1), (4,) * 4, (0,) * 4, (1,) * 4)
        self.assertEqual([rule_plan(problem, rule) for rule in RULES], [(3, 0, 0, 0), (2, 0, 0, 1), (2, 0, 0, 1)])

    def test_balance_costs_at_most_twice_the_least(self):
        source = random.Random(41)
        worst = Fraction(0)
        for _ in range(400):
            many = source.randint(1, 7)
            demands = tuple(source.choice([0, 1, 5, 30]) for _ in range(many))
            holdings = tuple(source.choice([0, 1, 3, 40]) for _ in range(many))
            setup, unit = source.choice([0, 5, 60, 999]), source.choice([0, 0, 2])
            problem = (demands, (setup,) * many, (unit,) * many, holdings)
            paid, least = plan_cost(problem, rule_plan(problem, "balance")), least_of(problem)
            self.assertLessEqual(paid, 2 * least)
            worst = max(worst, Fraction(paid, max(least, 1)))
        self.assertGreater(worst, Fraction(5, 4))

    def test_wrong_rules(self):
        for value in ODD_VALUES + ["Balance", "meal ", "units", " unit", ("meal",), ["meal"], {"meal": 1}, b"meal"]:
            self.assert_raised(BadRule, {}, rule_plan, SMALL, value)
        bad = ((1,), (1,), (1,), (-1,))
        self.assert_raised(BadProblem, {"part": 3, "index": 0}, rule_plan, bad, "x")
        self.assert_problem_checked(rule_plan, "meal")


def averages(problem, parts):
    """even_shares by all orders of the members."""
    many = len(parts)
    costs = {group: group_least(problem, parts, group) for size in range(many + 1)
             for group in itertools.combinations(range(many), size)}
    totals, orders = [0] * many, 0
    for order in itertools.permutations(range(many)):
        orders += 1
        for place, member in enumerate(order):
            ahead = tuple(sorted(order[:place]))
            totals[member] += costs[tuple(sorted(ahead + (member,)))] - costs[ahead]
    return tuple(told(Fraction(total, orders)) for total in totals)


class EvenShares(Case):
    def test_against_all_orders(self):
        source = random.Random(42)
        members = set()
        for problem in EDGES[:7] + random_problems(159, 80, 4):
            parts = random_parts(problem, source)
            if len(parts) <= 4:
                members.add(len(parts))
                answer = even_shares(problem, parts)
                self.assertIs(type(answer), tuple)
                self.assertEqual(answer, averages(problem, parts))
                self.assertEqual(sum(read_ratio(share) for share in answer), least_of(problem))
        self.assertEqual(members, {1, 2, 3, 4})

    def test_six_members(self):
        problem = ((9, 4, 12, 7), (20, 15, 30, 9), (1, 0, 2, 1), (1, 2, 1, 3))
        parts = ((1, 0, 2, 0), (2, 2, 0, 1), (0, 1, 5, 0), (3, 0, 5, 5), (3, 1, 0, 0), (0, 0, 0, 1))
        self.assertEqual(even_shares(problem, parts), averages(problem, parts))

    def test_by_hand(self):
        # alone they pay 12 and 14, together 21
        self.assertEqual(even_shares(SMALL, PARTS), ((17, 2), (25, 2)))
        self.assertEqual(even_shares(SMALL, ((2, 3, 4),)), ((21, 1),))
        self.assertEqual(even_shares(SMALL, ((2, 3, 4), (0, 0, 0))), ((21, 1), (0, 1)))
        self.assertEqual(even_shares(((3,), (12,), (0,), (0,)), ((1,), (1,), (1,))), ((4, 1),) * 3)
        self.assertEqual(even_shares(((3,), (10,), (0,), (0,)), ((1,), (1,), (1,))), ((10, 3),) * 3)
        self.assertEqual(even_shares(NOTHING, ((0, 0, 0),) * 6), ((0, 1),) * 6)

    def test_they_need_not_be_shares(self):
        # only the sum is asked for; prices tell others
        self.assertNotEqual(even_shares(SMALL, PARTS), shares(SMALL, PARTS))

    def test_wrong_values(self):
        self.assert_problem_checked(even_shares, PARTS)
        for parts, index in bad_parts():
            self.assert_raised(BadParts, {"index": index}, even_shares, SMALL, parts)


if __name__ == "__main__":
    unittest.main()
