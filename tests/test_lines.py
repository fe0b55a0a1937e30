"""Points 30 and 31: lines of stages, and nested plans."""

import itertools
import random
import unittest

from lotplans.errors import BadLine, BadLinePlan, NotFavored
from lotplans.lines import favors_nested, is_nested, line_cost, line_plan, line_plan_cost, nested_plan
from tests.helpers import EDGES, ODD_VALUES, Case, all_amounts, least_of, plan_cost, random_problems

SMALL_LINE = ((2, 3), (((4, 4), (0, 0), (0, 0)), ((1, 1), (0, 0), (9, 9))))
THREE = ((1, 0, 2), (((9, 8, 7), (2, 2, 1), (0, 1, 0)), ((3, 3, 3), (1, 1, 1), (1, 1, 2)),
                     ((1, 2, 3), (4, 5, 6), (7, 8, 9))))


def stage_stocks(line, plan):
    """The stocks behind each stage."""
    rows = list(plan) + [line[0]]
    return [[sum(rows[k][:t + 1]) - sum(rows[k + 1][:t + 1]) for t in range(len(line[0]))] for k in range(len(plan))]


def fine(line, plan):
    """Whether amounts are a plan of a line, by the words of point 30."""
    return all(min(row) >= 0 for row in plan) and all(min(stocks) >= 0 and stocks[-1] == 0
                                                      for stocks in stage_stocks(line, plan))


def whole_cost(line, plan):
    """line_plan_cost by its words."""
    total = 0
    for (setups, units, holdings), amounts, stocks in zip(line[1], plan, stage_stocks(line, plan)):
        for t, amount in enumerate(amounts):
            total += (setups[t] if amount else 0) + units[t] * amount + holdings[t] * stocks[t]
    return total


def all_line_plans(line):
    rows = all_amounts(sum(line[0]), len(line[0]))
    return [plan for plan in itertools.product(rows, repeat=len(line[1])) if fine(line, plan)]


def nested(plan):
    return not any(ahead and not amount for one, other in zip(plan, plan[1:]) for ahead, amount in zip(one, other))


def least_by_stocks(line, only_nested=False):
    """The least cost over all amounts, from period to period for all stocks behind the stages."""
    demands, stages = line
    total = sum(demands)
    states = {(0,) * len(stages): 0}
    for period, demand in enumerate(demands):
        later = {}
        for stocks, paid in states.items():
            lacking = total - sum(demands[:period]) - sum(stocks)
            for amounts in itertools.product(range(lacking + max(stocks) + 1), repeat=len(stages)):
                if only_nested and not all(not one or other for one, other in zip(amounts, amounts[1:])):
                    continue
                taken = amounts[1:] + (demand,)
                left = tuple(stock + amount - less for stock, amount, less in zip(stocks, amounts, taken))
                if min(left) < 0 or amounts[0] > lacking:
                    continue
                more = paid
                for (setups, units, holdings), amount, level in zip(stages, amounts, left):
                    more += (setups[period] if amount else 0) + units[period] * amount + holdings[period] * level
                if left not in later or more < later[left]:
                    later[left] = more
        states = later
    return states[(0,) * len(stages)]


def times(row, factor):
    return tuple(factor * entry for entry in row)


def random_line(source, many=None, most=3, stages=None, greatest=(20, 3, 4)):
    many = many or source.randint(1, 4)
    demands = tuple(source.randint(0, most) for _ in range(many))
    return (demands, tuple(tuple(tuple(source.randint(0, high) for _ in range(many)) for high in greatest)
                           for _ in range(stages or source.randint(1, 3))))


def favored(line, source):
    """A line like another one, but with costs that favor nested plans."""
    demands, stages = line
    found, ahead = [], [0] * len(demands)
    for setups, units, holdings in stages:
        ahead = [min(999, one + source.choice([0, 0, 1, holding])) for one, holding in zip(ahead, holdings)]
        found.append((tuple(sorted(setups, reverse=True)), tuple(sorted(units, reverse=True)), tuple(ahead)))
    return (demands, tuple(found))


def random_lines(seed, times, total, **rest):
    """Lines whose demands add up to at most a total."""
    source = random.Random(seed)
    found = []
    while len(found) < times:
        line = random_line(source, greatest=source.choice([(20, 3, 4), (2, 1, 1), (9, 0, 2), (0, 3, 3)]), **rest)
        if sum(line[0]) <= total:
            found.append(line)
    return found


def great_lines(seed, times):
    """Lines of six periods and three stages with great demands."""
    source = random.Random(seed)
    found = []
    for _ in range(times):
        demands = tuple(source.randint(0, 999) if source.random() < 0.8 else 0 for _ in range(6))
        stages = tuple((tuple(source.randint(0, 999) for _ in range(6)),
                        tuple(source.randint(0, source.choice([0, 2])) for _ in range(6)),
                        tuple(source.randint(0, source.choice([0, 1, 2])) for _ in range(6))) for _ in range(3))
        found.append((demands, stages))
    return found


def interval_line_cost(line):
    """The least cost over all plans whose stages have starts of their own, by all rows of starts.

    Each stage makes what is taken from a start up to its next one there.
    """
    demands, stages = line
    many = len(demands)
    choices = [[t for t in range(many) if (mask >> t) & 1] for mask in range(2 ** many)]

    def least(taken, stage):
        if stage < 0:
            return 0
        setups, units, holdings = stages[stage]
        best = None
        for starts in choices:
            amounts, last = [0] * many, None
            for t in range(many):
                last = t if t in starts else last
                if taken[t] and last is None:
                    break
                if taken[t]:
                    amounts[last] += taken[t]
            else:
                if any(not amounts[t] for t in starts):
                    continue
                stocks = [sum(amounts[:t + 1]) - sum(taken[:t + 1]) for t in range(many)]
                paid = sum((setups[t] if amounts[t] else 0) + units[t] * amounts[t] + holdings[t] * stocks[t]
                           for t in range(many))
                paid += least_known(tuple(amounts), stage - 1)
                best = paid if best is None else min(best, paid)
        return best

    known = {}

    def least_known(taken, stage):
        if (taken, stage) not in known:
            known[taken, stage] = least(taken, stage)
        return known[taken, stage]

    return least_known(demands, len(stages) - 1)


def bad_lines():
    """Values that are not lines, each with the index of its BadLine."""
    demands, stages = THREE
    found = [(value, None) for value in ODD_VALUES]
    found += [(value, None) for value in (
        [demands, stages], (demands,), (demands, stages, stages), (demands, list(stages)), (list(demands), stages),
        (demands, ()), (demands, (stages[0],) * 4), (demands, "abc"), (demands, {}), (demands, None), (demands, 3),
        ((), (((), (), ()),)), ((1,) * 7, (((1,) * 7,) * 3,)), (None, stages), ("102", stages), ({}, stages),
        ((), ()), (demands, (None,) * 4), ((1, 0, 1000), ()))]
    for index in range(3):
        for thing in (-1, 1000, True, None, "1", (), [1], 10 ** 30):
            row = list(demands)
            row[index] = thing
            found.append(((tuple(row), stages), None))
            found.append(((tuple(row), (None,)), None))
    for index in range(3):
        wrong = [None, 0, "abc", (), [(1, 1, 1)] * 3, ((1, 1, 1),) * 2, ((1, 1, 1),) * 4, {}, True]
        for part in range(3):
            for thing in (None, 5, "123", [1, 1, 1], (1, 1), (1, 1, 1, 1), (), (1, 1, -1), (1, 1000, 1), (True, 1, 1),
                          (1, None, 1), (1, "1", 1), (1, 1, (1,)), {}):
                wrong.append(stages[index][:part] + (thing,) + stages[index][part + 1:])
        for thing in wrong:
            found.append(((demands, stages[:index] + (thing,) + stages[index + 1:]), index))
            found.append(((demands, stages[:index] + (thing,) + (None,) * (2 - index)), index))
    return found


def bad_line_plans():
    """Values that are not plans of the line THREE."""
    plan = ((3, 0, 0), (1, 0, 2), (1, 0, 2))
    found = list(ODD_VALUES) + [list(plan), plan[:2], plan + plan[:1], "abc", {}, plan[::-1], (plan,)]
    for stage in range(3):
        for thing in (None, 3, "300", list(plan[stage]), plan[stage][:2], plan[stage] + (0,), (), {}):
            found.append(plan[:stage] + (thing,) + plan[stage + 1:])
        for period in range(3):
            for thing in (-1, True, False, None, "0", (), plan[stage][period] + 1, 10 ** 30):
                row = plan[stage][:period] + (thing,) + plan[stage][period + 1:]
                found.append(plan[:stage] + (row,) + plan[stage + 1:])
    found += [((1, 0, 2), (3, 0, 0), (1, 0, 2)), ((3, 0, 0), (0, 1, 2), (1, 0, 2)), ((3, 0, 0), (3, 0, 0), (0, 3, 0)),
              ((4, 0, 0), (4, 0, 0), (4, 0, 0)), ((4, 0, 0), (3, 0, 0), (3, 0, 0)), ((0, 0, 0),) * 3,
              ((3, 0, 0), (4, -1, 0), (3, 0, 0)), ((1, 0, 2), (1, 2, 0), (1, 2, 0))]
    return found


class Cost(Case):
    def test_by_its_words(self):
        for line in random_lines(701, 60, 4) + [SMALL_LINE, THREE]:
            for plan in all_line_plans(line)[::7]:
                found = line_plan_cost(line, plan)
                self.assertEqual((type(found), found), (int, whole_cost(line, plan)), (line, plan))

    def test_a_plan_worked_out_by_hand(self):
        # stage 0: 9 + 3 * 2, then 2 and 2 units kept; stage 1: 3 + 1, 3 + 2; stage 2: 1 + 4, 3 + 12
        self.assertEqual(line_plan_cost(THREE, ((3, 0, 0), (1, 0, 2), (1, 0, 2))), 15 + 0 + 2 + 9 + 20)
        # a stage may pass on in the period in which it is made; what is kept is kept behind its stage
        self.assertEqual(line_plan_cost(THREE, ((3, 0, 0), (3, 0, 0), (1, 0, 2))), 15 + 6 + 2 + 2 + 20)
        self.assertEqual(line_plan_cost(THREE, ((3, 0, 0), (3, 0, 0), (3, 0, 0))), 15 + 6 + 13 + 14 + 16)
        self.assertEqual(line_plan_cost(SMALL_LINE, ((5, 0), (2, 3))), 6)

    def test_one_stage_costs_as_a_problem_does(self):
        for problem in random_problems(702, 40, 6):
            for row in (problem[0], (sum(problem[0]),) + (0,) * (len(problem[0]) - 1)):
                self.assertEqual(line_plan_cost((problem[0], (problem[1:],)), (row,)), plan_cost(problem, row))

    def test_wrong_values(self):
        fine_plan = ((3, 0, 0), (1, 0, 2), (1, 0, 2))
        for line, index in bad_lines():
            for call in (line_plan_cost, is_nested):
                for plan in (fine_plan, None):
                    self.assert_raised(BadLine, {"index": index}, call, line, plan)
            for call in (line_cost, line_plan, favors_nested, nested_plan):
                self.assert_raised(BadLine, {"index": index}, call, line)
        for plan in bad_line_plans():
            for call in (line_plan_cost, is_nested):
                self.assert_raised(BadLinePlan, {}, call, THREE, plan)

    def test_all_rows_of_amounts_are_plans_or_not(self):
        line = ((1, 0, 1), SMALL_LINE[1])
        line = (line[0], tuple(tuple(row + (1,) for row in stage) for stage in line[1]))
        rows = list(itertools.product(range(3), repeat=3))
        for plan in itertools.product(rows, repeat=2):
            if fine(line, plan):
                self.assertEqual(line_plan_cost(line, plan), whole_cost(line, plan))
            else:
                self.assert_raised(BadLinePlan, {}, line_plan_cost, line, plan)


class Least(Case):
    def assert_least(self, line, expected):
        cost, plan = line_cost(line), line_plan(line)
        self.assertEqual((type(cost), cost), (int, expected), line)
        self.assert_plan(line, plan)
        self.assertEqual(whole_cost(line, plan), expected, (line, plan))

    def assert_plan(self, line, plan):
        self.assertEqual({type(row) for row in (plan,) + plan}, {tuple})
        self.assertEqual({type(amount) for row in plan for amount in row}, {int})
        self.assertEqual([len(row) for row in plan], [len(line[0])] * len(line[1]))
        self.assertTrue(fine(line, plan), (line, plan))

    def test_example(self):
        self.assertEqual(line_cost(SMALL_LINE), 6)
        self.assertEqual(line_plan(SMALL_LINE), ((5, 0), (2, 3)))

    def test_against_all_plans(self):
        for line in random_lines(703, 250, 4) + random_lines(704, 40, 3, many=4, stages=3):
            self.assert_least(line, min(whole_cost(line, plan) for plan in all_line_plans(line)))

    def test_against_all_stocks(self):
        for line in random_lines(705, 25, 7, many=5, stages=2) + random_lines(706, 25, 8, many=6, stages=2):
            self.assert_least(line, least_by_stocks(line))
        for many in (5, 6):
            for line in random_lines(707, 6, 5, many=many, stages=3, most=2):
                self.assert_least(line, least_by_stocks(line))

    def test_one_stage(self):
        for problem in random_problems(709, 150, 6) + [x for x in EDGES if len(x[0]) <= 6]:
            self.assert_least((problem[0], (problem[1:],)), least_of(problem))

    def test_stages_that_cost_nothing(self):
        source = random.Random(71)
        for problem in random_problems(710, 60, 6):
            free = ((0,) * len(problem[0]),) * 3
            dear = ((0,) * len(problem[0]),) * 2 + ((999,) * len(problem[0]),)
            for stages in ((free, problem[1:]), (free, problem[1:], dear), (free, free, problem[1:]),
                           (problem[1:], dear)):
                self.assert_least((problem[0], stages), least_of(problem))
            # what is cheaper to keep ahead waits there
            cheap = problem[1:3] + (tuple(source.randint(0, holding) for holding in problem[3]),)
            self.assert_least((problem[0], (cheap, free[:2] + (problem[3],))), least_of((problem[0],) + cheap))

    def test_six_periods_and_three_stages(self):
        for line in great_lines(711, 12):
            self.assert_least(line, interval_line_cost(line))

    def test_great_demands_that_are_many_times_small_ones(self):
        for line in random_lines(712, 8, 6, many=6, stages=2):
            demands, stages = line
            great = tuple((times(setups, 47), units, holdings) for setups, units, holdings in stages)
            # small demands cost the same if each unit is as dear as 99
            dear = tuple((setups, times(units, 99), times(holdings, 99)) for setups, units, holdings in great)
            self.assert_least((times(demands, 99), great), least_by_stocks((demands, dear)))

    def test_nothing_demanded(self):
        for many in range(1, 7):
            for stages in range(1, 4):
                line = ((0,) * many, (((5,) * many,) * 3,) * stages)
                self.assert_least(line, 0)
                self.assertEqual(line_plan(line), ((0,) * many,) * stages)


class Nested(Case):
    def test_is_nested_by_its_words(self):
        seen = {True: 0, False: 0}
        for line in random_lines(713, 40, 4) + [SMALL_LINE, THREE]:
            for plan in all_line_plans(line):
                answer = is_nested(line, plan)
                self.assertIs(answer, nested(plan))
                seen[answer] += 1
        self.assertGreater(min(seen.values()), 200)

    def test_is_nested_at_its_edges(self):
        for plan, answer in ((((3, 0, 0), (1, 0, 2), (1, 0, 2)), True), (((3, 0, 0), (3, 0, 0), (1, 0, 2)), True),
                             (((2, 1, 0), (2, 0, 1), (1, 0, 2)), False), (((2, 1, 0), (2, 1, 0), (1, 0, 2)), False),
                             (((2, 1, 0), (2, 1, 0), (2, 1, 0)), True), (((1, 0, 2), (1, 0, 2), (1, 0, 2)), True),
                             (((3, 0, 0), (2, 0, 1), (2, 1, 0)), None), (((3, 0, 0), (2, 1, 0), (2, 0, 1)), False)):
            if answer is None:
                self.assert_raised(BadLinePlan, {}, is_nested, THREE, plan)
            else:
                self.assertIs(is_nested(THREE, plan), answer, plan)
        # with one stage each plan is nested
        self.assertIs(is_nested(((1, 1), (((1, 1),) * 3,)), ((2, 0),)), True)

    def test_favors_nested_at_its_edges(self):
        base = ((1, 1, 1), (((5, 5, 4), (3, 2, 2), (1, 2, 0)), ((7, 7, 7), (0, 0, 0), (1, 3, 0))))
        self.assertIs(favors_nested(base), True)
        for stage in range(2):
            for part, place, entry, answer in (
                    (0, 1, 8, False), (0, 2, 8, False), (0, 0, 999, True), (0, 2, 0, True), (1, 1, 4, False),
                    (1, 2, 9, False), (1, 0, 9, True), (2, 0, [2, 0][stage], False), (2, 1, [4, 1][stage], False),
                    (2, 2, [1, 0][stage], stage == 1), (2, 0, [0, 9][stage], True), (2, 2, 0, True)):
                stages = [[list(row) for row in rows] for rows in base[1]]
                stages[stage][part][place] = entry
                line = (base[0], tuple(tuple(tuple(row) for row in rows) for rows in stages))
                self.assertIs(favors_nested(line), answer, (stage, part, place, entry))
        # holdings may rise and fall from period to period
        self.assertIs(favors_nested(((1, 1), (((1, 1), (1, 1), (0, 9)), ((1, 1), (1, 1), (9, 9))))), True)
        self.assertIs(favors_nested(((1,), (((0,), (0,), (0,)),))), True)

    def test_favors_nested_by_its_words(self):
        source = random.Random(72)
        seen = {True: 0, False: 0}
        for line in random_lines(714, 300, 99):
            for value in (line, favored(line, source)):
                stages = value[1]
                expected = all(row[t] >= row[t + 1] for stage in stages for row in stage[:2]
                               for t in range(len(row) - 1))
                expected = expected and all(one <= two for k in range(1, len(stages))
                                            for one, two in zip(stages[k - 1][2], stages[k][2]))
                self.assertIs(favors_nested(value), expected)
                seen[expected] += 1
        self.assertGreater(min(seen.values()), 200)

    def assert_nested(self, line, expected):
        plan = nested_plan(line)
        self.assertEqual({type(row) for row in (plan,) + plan}, {tuple})
        self.assertEqual({type(amount) for row in plan for amount in row}, {int})
        self.assertTrue(fine(line, plan), (line, plan))
        self.assertTrue(nested(plan), (line, plan))
        self.assertIs(is_nested(line, plan), True)
        self.assertEqual(whole_cost(line, plan), expected, (line, plan))
        self.assertEqual(line_cost(line), expected)

    def test_nested_plans_cost_least(self):
        source = random.Random(73)
        for line in random_lines(715, 200, 4):
            line = favored(line, source)
            plans = all_line_plans(line)
            self.assert_nested(line, min(whole_cost(line, plan) for plan in plans))
            self.assertEqual(min(whole_cost(line, plan) for plan in plans if nested(plan)), line_cost(line))

    def test_longer_lines(self):
        source = random.Random(74)
        for line in random_lines(716, 20, 7, many=6, stages=2) + random_lines(717, 4, 4, many=5, stages=3, most=2):
            line = favored(line, source)
            self.assert_nested(line, least_by_stocks(line, only_nested=True))
        for line in great_lines(718, 12):
            line = favored(line, source)
            self.assert_nested(line, interval_line_cost(line))

    def test_amounts_that_might_as_well_come_early(self):
        # the first stage costs the same whenever it makes something, and keeps for nothing
        flat = ((1, 1, 1), (((0,) * 3,) * 3, ((2, 2, 2), (0, 0, 0), (0, 0, 0)), ((1, 1, 1), (0, 0, 0), (5, 5, 5))))
        self.assert_nested(flat, 5)
        nothing = ((0, 0), (((1, 1),) * 3, ((1, 1),) * 3))
        self.assert_nested(nothing, 0)
        for zeros in ((0, 0, 3), (0, 3, 0), (3, 0, 0), (0, 3, 0, 0, 2)):
            many = len(zeros)
            line = (zeros, (((4,) * many, (0,) * many, (0,) * many),) * 3)
            self.assert_nested(line, 12)

    def test_not_favored_just_where_favors_nested_is_false(self):
        source = random.Random(75)
        for line in random_lines(719, 150, 12):
            for value in (line, favored(line, source)):
                if favors_nested(value):
                    self.assert_nested(value, line_cost(value))
                else:
                    self.assert_raised(NotFavored, {}, nested_plan, value)
        self.assert_raised(NotFavored, {}, nested_plan, ((0, 0), (((1, 2), (0, 0), (0, 0)),)))


if __name__ == "__main__":
    unittest.main()
