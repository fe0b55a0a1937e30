"""Point 32: items that share setups."""

import itertools
import random
import unittest

from lotplans.errors import BadJoint
from lotplans.joint import joint_bound, joint_cost, joint_plans
from tests.helpers import (
    EDGES, NOTHING, ODD_VALUES, SMALL, Case, all_plans, bad_problems, interval_plans, is_fine_plan, least_of, plan_cost,
    random_problem, start_list,
)

TWO = ((2, 3), (4, 4), (0, 0), (1, 1))
EXAMPLE = ((6, 6), (TWO, TWO))


def together(setups, problems, plans):
    """What plans cost together, by the words of point 32."""
    used = {period for plan in plans for period in start_list(plan)}
    return sum(setups[period] for period in used) + sum(plan_cost(one, plan) for one, plan in zip(problems, plans))


def least_together(joint, plans_of=all_plans):
    setups, problems = joint
    return min(together(setups, problems, plans) for plans in itertools.product(*map(plans_of, problems)))


def least_by_groups(joint):
    """The least cost over all interval plans, of which only the cheapest ones of each set of starts are combined."""
    setups, problems = joint
    found = {frozenset(): 0}
    for problem in problems:
        cheapest = {}
        for plan in interval_plans(problem):
            used, paid = frozenset(start_list(plan)), plan_cost(problem, plan)
            cheapest[used] = min(paid, cheapest.get(used, paid))
        longer = {}
        for one, paid in found.items():
            for other, more in cheapest.items():
                longer[one | other] = min(paid + more, longer.get(one | other, paid + more))
        found = longer
    return min(paid + sum(setups[period] for period in used) for used, paid in found.items())


def random_joint(source, many, items, greatest=None):
    kinds = [(9, 20, 5, 4), (1, 2, 1, 1), (3, 5, 2, 1), (999, 999, 999, 999), (5, 99, 0, 2), (5, 5, 0, 2)]
    problems = []
    for _ in range(items):
        problem = random_problem(source, many, greatest or source.choice(kinds))
        if source.random() < 0.4:
            thin = tuple(demand if source.random() < 0.6 else 0 for demand in problem[0])
            problem = (thin,) + problem[1:]
        problems.append(problem)
    most = source.choice([0, 5, 40, 999])
    return (tuple(source.randint(0, most) for _ in range(many)), tuple(problems))


def random_joints(seed, times, longest=8, most=3):
    source = random.Random(seed)
    return [random_joint(source, source.randint(1, longest), source.randint(1, most)) for _ in range(times)]


def random_split(joint, source):
    setups, problems = joint
    rows = [[0] * len(setups) for _ in problems]
    for period, setup in enumerate(setups):
        cuts = sorted(source.randint(0, setup) for _ in rows[1:])
        for row, low, high in zip(rows, [0] + cuts, cuts + [setup]):
            row[period] = high - low
    return tuple(tuple(row) for row in rows)


def some_splits(joint, source):
    """Splits that are drawn, and those that put all on one item."""
    setups, problems = joint
    found = [random_split(joint, source) for _ in range(4)]
    for chosen in range(len(problems)):
        found.append(tuple(setups if item == chosen else (0,) * len(setups) for item in range(len(problems))))
    return found


def bad_joints():
    """Values that are not items that share setups, each with the index of its BadJoint."""
    fine = ((1, 2, 3), (SMALL, NOTHING, SMALL))
    setups, problems = fine
    found = [(value, None) for value in ODD_VALUES]
    found += [(value, None) for value in (
        list(fine), (setups,), fine + (setups,), (list(setups), problems), (setups, list(problems)), (setups, ()),
        (setups, problems + (SMALL,)), (setups, None), (setups, "abc"), (setups, {}), ((), ()), ((), (SMALL,)),
        ((1,) * 9, (((1,) * 9,) * 4,)), (None, problems), ("123", problems), (problems, setups), (setups, (None,) * 4),
        (1, problems))]
    for index in range(3):
        for thing in (-1, 1000, True, None, "1", (), [1], 10 ** 30):
            row = list(setups)
            row[index] = thing
            found += [((tuple(row), problems), None), ((tuple(row), (None,)), None)]
    longer = tuple(row + (1,) for row in SMALL)
    for index in range(3):
        for thing in [value for value, _, _ in bad_problems()] + [TWO, longer, ((1,),) * 4, ((1,) * 12,) * 4]:
            rows = list(problems)
            rows[index] = thing
            found.append(((setups, tuple(rows)), index))
            found.append(((setups, tuple(rows[:index + 1]) + (None,) * (2 - index)), index))
    return found


def bad_splits():
    """Values that are not splits of the setups 6, 6 among two items, each with the index of its BadJoint."""
    found = [(value, None) for value in ODD_VALUES if not (type(value) is tuple and len(value) == 2)]
    fine = ((2, 3), (4, 3))
    found += [(value, None) for value in (list(fine), fine[:1], fine + ((0, 0),), "ab", {0: fine[0], 1: fine[1]}, ())]
    found += [(("a", "b"), 0), ((1, True), 0)]
    for index in range(2):
        for thing in (None, 3, "33", [2, 3], (2,), (2, 3, 0), (), (2, -3), (2, 1000), (2, True), (False, 3), (2, None),
                      (2, "3"), (2, (3,)), {}):
            rows = list(fine)
            rows[index] = thing
            found += [(tuple(rows), index), (tuple(rows[:index + 1]) + ("x",) * (1 - index), index)]
    found += [(((2, 3), (4, 4)), 2), (((2, 3), (3, 3)), 2), (((0, 0), (0, 0)), 2), (((6, 6), (6, 6)), 2),
              (((5, 7), (1, 0)), 2), (((999, 999), (999, 999)), 2)]
    return found


class Least(Case):
    def assert_least(self, joint, expected):
        cost, plans = joint_cost(joint), joint_plans(joint)
        self.assertEqual((type(cost), cost), (int, expected), joint)
        self.assertEqual({type(x) for x in (plans,) + plans}, {tuple})
        self.assertEqual(len(plans), len(joint[1]))
        for problem, plan in zip(joint[1], plans):
            self.assertEqual({type(amount) for amount in plan}, {int})
            self.assertEqual(len(plan), len(joint[0]))
            self.assertTrue(is_fine_plan(problem, plan), (joint, plans))
        self.assertEqual(together(joint[0], joint[1], plans), expected, (joint, plans))

    def test_examples(self):
        self.assertEqual(joint_cost(EXAMPLE), 20)
        self.assertEqual(joint_plans(EXAMPLE), ((5, 0), (5, 0)))

    def test_against_all_plans_of_all_items(self):
        source = random.Random(81)
        tried = 0
        while tried < 150:
            joint = random_joint(source, source.randint(1, 3), source.randint(1, 3), (2, source.choice([3, 20]), 2, 2))
            count = 1
            for problem in joint[1]:
                count *= len(all_plans(problem))
            if count <= 3000:
                self.assert_least(joint, least_together(joint))
                tried += 1

    def test_against_all_interval_plans(self):
        for joint in random_joints(801, 120, 5):
            self.assert_least(joint, least_by_groups(joint))
        for joint in random_joints(802, 20, 4, 2):
            self.assertEqual(least_by_groups(joint), least_together(joint, interval_plans))

    def test_eight_periods_and_three_items(self):
        source = random.Random(82)
        for _ in range(6):
            joint = random_joint(source, 8, 3)
            self.assert_least(joint, least_by_groups(joint))
        for entry in (0, 1, 999):
            joint = ((entry,) * 8, (((entry,) * 8,) * 4,) * 3)
            self.assert_least(joint, least_by_groups(joint))

    def test_one_item(self):
        source = random.Random(83)
        for joint in random_joints(803, 60, 8, 1):
            demands, setups, units, holdings = joint[1][0]
            raised = (demands, tuple(one + two for one, two in zip(joint[0], setups)), units, holdings)
            self.assert_least(joint, least_of(raised))
            self.assertEqual(joint_bound(joint, random_split(joint, source)), least_of(raised))

    def test_shared_setups_of_0(self):
        for joint in random_joints(804, 60, 8):
            free = ((0,) * len(joint[0]), joint[1])
            self.assert_least(free, sum(least_of(problem) for problem in joint[1]))
        for problem in EDGES:
            if len(problem[0]) <= 8:
                self.assert_least(((0,) * len(problem[0]), (problem,) * 3), 3 * least_of(problem))

    def test_shared_setups_alone(self):
        # with no setups of their own the items are as one with all demands
        source = random.Random(84)
        for joint in random_joints(805, 40, 7):
            setups, problems = joint
            units, holdings = problems[0][2:]
            bare = tuple((problem[0], (0,) * len(setups), units, holdings) for problem in problems)
            whole = tuple(sum(problem[0][k] for problem in problems) for k in range(len(setups)))
            self.assert_least((setups, bare), least_of((whole, setups, units, holdings)))
            self.assertLessEqual(joint_bound((setups, bare), random_split((setups, bare), source)),
                                 joint_cost((setups, bare)))

    def test_a_shared_setup_is_paid_once_and_only_where_something_is_made(self):
        first = ((3, 0, 3), (0, 0, 0), (0, 0, 0), (9, 9, 9))
        second = ((0, 3, 3), (0, 0, 0), (0, 0, 0), (9, 9, 9))
        self.assert_least(((5, 7, 11), (first, second)), 5 + 7 + 11)
        self.assert_least(((5, 7, 100), (first, first)), 5 + 7 + 2 * 27)
        self.assert_least(((5, 7, 11), (NOTHING, NOTHING)), 0)
        self.assert_least(((5, 7, 11), (NOTHING, second)), 18)

    def test_wrong_values(self):
        for joint, index in bad_joints():
            for call, rest in ((joint_cost, ()), (joint_plans, ()), (joint_bound, (None,)),
                               (joint_bound, (((1, 2, 3), (0, 0, 0), (0, 0, 0)),))):
                self.assert_raised(BadJoint, {"index": index}, call, joint, *rest)


class Bound(Case):
    def test_examples(self):
        self.assertEqual(joint_bound(EXAMPLE, ((3, 3), (3, 3))), 20)

    def test_by_its_words_and_at_most_the_least_cost(self):
        source = random.Random(85)
        below = 0
        for joint in random_joints(806, 80, 6):
            cost = joint_cost(joint)
            for split in some_splits(joint, source):
                expected = 0
                for problem, more in zip(joint[1], split):
                    setups = tuple(one + two for one, two in zip(problem[1], more))
                    expected += least_of((problem[0], setups) + problem[2:])
                found = joint_bound(joint, split)
                self.assertEqual((type(found), found), (int, expected), (joint, split))
                self.assertLessEqual(found, cost)
                below += found < cost
        self.assertGreater(below, 50)

    def test_setups_above_999(self):
        problem = ((5, 5), (999, 999), (0, 0), (0, 0))
        self.assertEqual(joint_bound(((999, 999), (problem,)), ((999, 999),)), 1998)
        self.assertEqual(joint_bound(((999, 999), (problem, problem)), ((999, 0), (0, 999))), 999 + 999 + 999)
        self.assertEqual(joint_cost(((999, 999), (problem, problem))), 3 * 999)

    def test_wrong_splits(self):
        for split, index in bad_splits():
            self.assert_raised(BadJoint, {"index": index}, joint_bound, EXAMPLE, split)
        self.assert_raised(BadJoint, {"index": 1}, joint_bound, ((6, 6), (TWO,)), ((6, 5),))
        self.assert_raised(BadJoint, {"index": 3}, joint_bound, ((6, 6), (TWO,) * 3), ((6, 6), (0, 0), (0, 1)))

    def test_errors_of_the_items_come_first(self):
        self.assert_raised(BadJoint, {"index": 1}, joint_bound, ((6, 6), (TWO, SMALL)), None)
        self.assert_raised(BadJoint, {"index": None}, joint_bound, ((6, 6), ()), ((6, None),))


if __name__ == "__main__":
    unittest.main()
