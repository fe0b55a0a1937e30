"""Points 26 and 27: clusters, and intervals that are powers of 2."""

import itertools
import random
import unittest
from fractions import Fraction

from lotplans.errors import BadArcs, BadExponents, BadItems
from lotplans.families import cluster_bound, clusters, exponents, keeps_order, power_cost, shows_clusters
from tests.helpers import ODD_VALUES, Case, read_ratio, told

ITEMS = ((8, 1), (1, 1), (18, 2))


def worth(items, members):
    return Fraction(sum(items[k][0] for k in members), sum(items[k][1] for k in members))


def upper_subsets(arcs, left):
    """All upper subsets of a set but the empty one."""
    found = []
    for size in range(1, len(left) + 1):
        for chosen in itertools.combinations(left, size):
            if all(a in chosen for a, b in arcs if b in chosen and a in left):
                found.append(chosen)
    return found


def all_clusters(items, arcs):
    """clusters by the words of point 26."""
    left, found = set(range(len(items))), []
    while left:
        subsets = upper_subsets(arcs, sorted(left))
        greatest = max(worth(items, chosen) for chosen in subsets)
        members = set()
        for chosen in subsets:
            if worth(items, chosen) == greatest:
                members |= set(chosen)
        assert worth(items, members) == greatest
        found.append((told(greatest), tuple(sorted(members))))
        left -= members
    return tuple(found)


def cost_of(items, powers):
    return sum((setup / Fraction(2) ** k + keep * Fraction(2) ** k for (setup, keep), k in zip(items, powers)),
               Fraction(0))


def in_order(arcs, powers):
    return all(powers[a] >= powers[b] for a, b in arcs)


def row(many):
    return tuple((k, k + 1) for k in range(many - 1))


def row_back(many):
    return tuple((k + 1, k) for k in range(many - 1))


def ring(many):
    return tuple(sorted((k, (k + 1) % many) for k in range(many)))


def random_items(source, most=8):
    greatest = source.choice([3, 20, 9999])
    return tuple((source.randint(1, greatest), source.randint(1, source.choice([1, greatest])))
                 for _ in range(source.randint(1, most)))


def random_arcs(many, source):
    pairs = [(a, b) for a in range(many) for b in range(many) if a != b]
    share = source.choice([0, 0.1, 0.25, 0.5])
    return tuple(sorted(pair for pair in pairs if source.random() < share))


def random_cases(seed, times, most=8):
    source = random.Random(seed)
    found = []
    for _ in range(times):
        items = random_items(source, most)
        many = len(items)
        arcs = source.choice([(), row(many), row_back(many), ring(many) if many > 1 else (),
                              random_arcs(many, source), random_arcs(many, source)])
        found.append((items, arcs))
    return found


EDGES = [
    (((1, 1),), ()), (((9999, 1),), ()), (((1, 9999),), ()), (((9999, 9999),) * 8, ring(8)), (((3, 2),) * 8, ()),
    (((3, 2), (6, 4), (9, 6)), ((0, 1),)), (((1, 9999), (9999, 1)), ((0, 1),)), (((1, 9999), (9999, 1)), ((1, 0),)),
    (((1, 9999), (9999, 1)), ((0, 1), (1, 0))), (ITEMS, ()), (ITEMS, ((1, 0),)),
    (((4, 1), (2, 1), (8, 1), (1, 1), (16, 1), (1, 2), (32, 1), (1, 4)), row(8)),
    (((4, 1), (2, 1), (8, 1), (1, 1), (16, 1), (1, 2), (32, 1), (1, 4)), row_back(8)),
    (((1, 1),) * 8, tuple((a, b) for a in range(8) for b in range(8) if a != b)),
]


def bad_items():
    """Values that are not items, each with the index of its BadItems."""
    found = [(value, None) for value in ODD_VALUES if type(value) is not tuple]
    found += [((), None), (((1, 1),) * 9, None), ([(1, 1)], None), (("x",) * 9, None), ({(1, 1): 1}, None)]
    for index in range(3):
        for thing in (0, None, "ab", (), (1,), (1, 1, 1), [1, 1], {}, (0, 1), (1, 0), (-1, 1), (10000, 1), (1, 10000),
                      (True, 1), (1, True), ("1", 1), (1, None), ((1, 1), 1), False):
            rows = list(ITEMS)
            rows[index] = thing
            found.append((tuple(rows), index))
            found.append((tuple(rows[:index + 1]) + ("x", (0, 0)), index))
    return found


def bad_arcs():
    """Values that are not arcs of three items."""
    found = [value for value in ODD_VALUES if value != ()]
    for arc in ((0, 0), (2, 2), (0, 3), (3, 0), (-1, 0), (0, -1), (0,), (0, 1, 2), [0, 1], "01", None, 0, (False, 1),
                (0, True), (0, None), ("0", 1), ((0,), 1), {}, ()):
        found += [(arc,), ((0, 1), arc)]
    found += [((0, 1), (0, 1)), ((1, 0), (0, 1)), ((0, 2), (0, 1)), [(0, 1)], {(0, 1): 1}, (0, 1),
              ((0, 1), (1, 0), (0, 2))]
    return found


def bad_exponents():
    """Values that are not exponents of three items."""
    found = [value for value in ODD_VALUES if value != (-1, 0, 1)]
    found += [(0, 0), (0, 0, 0, 0), [0, 0, 0], {0: 0, 1: 0, 2: 0}, "000"]
    for index in range(3):
        for thing in (-21, 21, 10 ** 30, True, False, None, "0", (), (0,), [0], {}, (0, 1)):
            powers = [0, 0, 0]
            powers[index] = thing
            found.append(tuple(powers))
    return found


class Clusters(Case):
    def assert_clusters(self, items, arcs):
        found = clusters(items, arcs)
        self.assertEqual(found, all_clusters(items, arcs), (items, arcs))
        for pair in found:
            self.assertEqual([type(x) for x in (pair,) + pair], [tuple] * 3)
            self.assertEqual({type(x) for x in pair[0] + pair[1]}, {int})
        self.assertEqual(sorted(member for _, members in found for member in members), list(range(len(items))))
        ratios = [read_ratio(ratio) for ratio, _ in found]
        self.assertEqual(ratios, sorted(set(ratios), reverse=True))
        self.assertIs(shows_clusters(items, arcs, found), True)
        return found

    def test_examples(self):
        self.assertEqual(clusters(ITEMS, ()), (((9, 1), (2,)), ((8, 1), (0,)), ((1, 1), (1,))))
        self.assertEqual(clusters(ITEMS, ((1, 0),)), (((9, 1), (2,)), ((9, 2), (0, 1))))

    def test_against_all_upper_subsets(self):
        for items, arcs in EDGES + random_cases(501, 150, 6) + random_cases(502, 15, 8):
            self.assert_clusters(items, arcs)

    def test_no_arcs(self):
        # those with equal ratios are together
        for items, _ in random_cases(503, 60):
            found = self.assert_clusters(items, ())
            for ratio, members in found:
                self.assertEqual({worth(items, [member]) for member in members}, {read_ratio(ratio)})
        self.assertEqual(clusters(((3, 2), (1, 1), (6, 4), (2, 2)), ()), (((3, 2), (0, 2)), ((1, 1), (1, 3))))

    def test_arcs_in_a_row(self):
        items = ((1, 1), (2, 1), (3, 1))
        self.assertEqual(clusters(items, row(3)), (((2, 1), (0, 1, 2)),))
        self.assertEqual(clusters(items, row_back(3)), (((3, 1), (2,)), ((2, 1), (1,)), ((1, 1), (0,))))
        self.assertEqual(clusters(((4, 1), (1, 1), (3, 1)), row(3)), (((4, 1), (0,)), ((2, 1), (1, 2))))
        # equal ratios in a row are one cluster
        self.assertEqual(clusters(((2, 1),) * 3, row(3)), (((2, 1), (0, 1, 2)),))

    def test_arcs_in_a_ring(self):
        source = random.Random(51)
        for many in range(2, 9):
            items = tuple((source.randint(1, 99), source.randint(1, 99)) for _ in range(many))
            self.assertEqual(clusters(items, ring(many)), ((told(worth(items, range(many))), tuple(range(many))),))
        # what hangs on a ring comes behind it or with it
        self.assertEqual(clusters(((4, 1), (2, 1), (1, 1)), ((0, 1), (1, 0), (1, 2))),
                         (((3, 1), (0, 1)), ((1, 1), (2,))))
        self.assertEqual(clusters(((4, 1), (2, 1), (9, 1)), ((0, 1), (1, 0), (1, 2))), (((5, 1), (0, 1, 2)),))

    def test_shows_no_others(self):
        source = random.Random(52)
        for items, arcs in EDGES + random_cases(504, 100, 6):
            told_one = clusters(items, arcs)
            changed = []
            for place, (ratio, members) in enumerate(told_one):
                other = (ratio[0] + 1, ratio[1]) if ratio[1] == 1 else (ratio[0], 1)
                changed.append(told_one[:place] + ((other, members),) + told_one[place + 1:])
                changed.append(told_one[:place] + ((ratio, members[1:]),) + told_one[place + 1:])
                changed.append(told_one[:place] + told_one[place + 1:])
                changed.append(told_one[:place] + ((ratio, members), (ratio, members)) + told_one[place + 1:])
                if len(members) > 1:
                    cut = source.randint(1, len(members) - 1)
                    pieces = tuple((told(worth(items, part)), part) for part in (members[:cut], members[cut:]))
                    changed += [told_one[:place] + pieces + told_one[place + 1:],
                                told_one[:place] + pieces[::-1] + told_one[place + 1:],
                                told_one[:place] + ((ratio, members[::-1]),) + told_one[place + 1:]]
                if place:
                    both = tuple(sorted(told_one[place - 1][1] + members))
                    changed.append(told_one[:place - 1] + ((told(worth(items, both)), both),) + told_one[place + 1:])
                    swapped = list(told_one)
                    swapped[place - 1:place + 1] = swapped[place - 1:place + 1][::-1]
                    changed.append(tuple(swapped))
            for value in changed:
                self.assertIs(shows_clusters(items, arcs, value), False, (items, arcs, value))

    def test_shows_values_of_all_kinds(self):
        items, arcs = ((1, 1), (9, 1)), ((1, 0),)
        fine = (((9, 1), (1,)), ((1, 1), (0,)))
        self.assertIs(shows_clusters(items, arcs, fine), True)
        wrong = list(ODD_VALUES) + [list(fine), (list(fine[0]), fine[1]), (fine[0][:1], fine[1]), ((), ()),
                                    (fine[0] + (1,), fine[1]), (([9, 1], (1,)), fine[1]), (((9, 1), [1]), fine[1])]
        # these equal what is asked for, as Python compares, but are no integers
        wrong += [(((9, True), (1,)), fine[1]), (((9, 1), (True,)), fine[1]), (fine[0], ((1, 1), (False,))),
                  (fine[0], ((True, 1), (0,))), (fine[0], ((1, True), (0,)))]
        wrong += [(((18, 2), (1,)), fine[1]), ((9, (1,)), fine[1]), (fine[0], ((1, 1), 0)), (fine[0], ((1, 1), None)),
                  (fine[0], "ab"), (((9, 1), (1, 1)), fine[1]), {0: fine[0], 1: fine[1]}]
        for value in wrong:
            self.assertIs(shows_clusters(items, arcs, value), False, value)
        self.assertIs(shows_clusters(((1, 1), (1, 1)), (), (((1, 1), (0, 1)),)), True)
        for members in ((0, True), (False, 1), (False, True), [0, 1], (1, 0), (0,), (0, 1, 1)):
            self.assertIs(shows_clusters(((1, 1), (1, 1)), (), (((1, 1), members),)), False)

    def test_wrong_values(self):
        for value, index in bad_items():
            for arcs in ((), None, ((0, 9),)):
                self.assert_raised(BadItems, {"index": index}, clusters, value, arcs)
                self.assert_raised(BadItems, {"index": index}, shows_clusters, value, arcs, None)
        for arcs in bad_arcs():
            self.assert_raised(BadArcs, {}, clusters, ITEMS, arcs)
            for value in (None, (((9, 1), (2,)), ((8, 1), (0,)), ((1, 1), (1,)))):
                self.assert_raised(BadArcs, {}, shows_clusters, ITEMS, arcs, value)


class Powers(Case):
    def test_examples(self):
        self.assertEqual(exponents(ITEMS, ()), (2, 0, 2))
        self.assertEqual(power_cost(ITEMS, (1, 0, 2)), (41, 2))
        self.assertEqual(cluster_bound(((8, 1),), ()), (((36, 1), (32, 1)),))

    def test_power_cost_by_its_words(self):
        source = random.Random(53)
        for items, _ in EDGES + random_cases(505, 100):
            for powers in [tuple(source.randint(-20, 20) for _ in items), (20,) * len(items), (-20,) * len(items),
                           (0,) * len(items), tuple(source.randint(-2, 2) for _ in items)]:
                found = power_cost(items, powers)
                self.assertEqual(found, told(cost_of(items, powers)))
                self.assertEqual([type(x) for x in (found,) + found], [tuple, int, int])
        self.assertEqual(power_cost(((1, 1),), (20,)), (1 + 2 ** 40, 2 ** 20))
        self.assertEqual(power_cost(((3, 5),), (-1,)), (17, 2))

    def test_keeps_order_by_its_words(self):
        source = random.Random(54)
        seen = {True: 0, False: 0}
        for items, arcs in EDGES + random_cases(506, 300):
            for powers in (tuple(source.randint(-2, 2) for _ in items), tuple(source.randint(0, 1) for _ in items),
                           tuple(sorted((source.randint(-20, 20) for _ in items), reverse=True)), (7,) * len(items)):
                answer = keeps_order(items, arcs, powers)
                self.assertIs(answer, in_order(arcs, powers))
                seen[answer] += 1
        self.assertGreater(min(seen.values()), 100)

    def test_keeps_order_at_its_edge(self):
        for powers, answer in (((0, 0, 0), True), ((1, 0, 0), True), ((0, 1, 0), False), ((0, 0, 20), True),
                               ((-20, -19, 0), False), ((-19, -20, 0), True)):
            self.assertIs(keeps_order(ITEMS, ((0, 1),), powers), answer)

    def test_exponents_by_the_two_inequalities(self):
        for items, arcs in EDGES + random_cases(507, 150):
            found = exponents(items, arcs)
            self.assertEqual([type(x) for x in (found,) + found], [tuple] + [int] * len(items))
            for ratio, members in all_clusters(items, arcs):
                for member in members:
                    power = found[member]
                    self.assertLessEqual(Fraction(2) ** (2 * power - 1), read_ratio(ratio))
                    self.assertLess(read_ratio(ratio), Fraction(2) ** (2 * power + 1))
            self.assertIs(keeps_order(items, arcs, found), True)

    def test_exponents_at_their_edges(self):
        for item, power in (((1, 1), 0), ((2, 1), 1), ((1, 2), 0), ((1999, 1000), 0), ((1, 3), -1), ((499, 1000), -1),
                            ((8, 1), 2), ((7, 1), 1), ((1, 8), -1), ((1, 9), -2), ((8192, 1), 7), ((8191, 1), 6),
                            ((9999, 1), 7), ((1, 9999), -7), ((1, 8192), -6), ((1, 8193), -7)):
            self.assertEqual(exponents((item,), ()), (power,), item)

    def test_exponents_cost_least_of_all_near(self):
        for items, arcs in [(x, y) for x, y in EDGES if len(x) <= 3] + random_cases(508, 120, 4):
            found = exponents(items, arcs)
            paid = cost_of(items, found)
            self.assertEqual(read_ratio(power_cost(items, found)), paid)
            low, high = min(found) - 1, max(found) + 1
            if (high - low + 1) ** len(items) <= 5000:
                for powers in itertools.product(range(low, high + 1), repeat=len(items)):
                    if in_order(arcs, powers):
                        self.assertLessEqual(paid, cost_of(items, powers), (items, arcs, powers))

    def test_cluster_bound(self):
        for items, arcs in EDGES + random_cases(509, 200):
            found = cluster_bound(items, arcs)
            parts = all_clusters(items, arcs)
            self.assertEqual([type(x) for x in (found,) + found], [tuple] * (len(parts) + 1))
            powers = exponents(items, arcs)
            for (square, least), (_, members) in zip(found, parts):
                paid = cost_of([items[k] for k in members], [powers[k] for k in members])
                self.assertEqual(square, told(paid * paid))
                setups, keeps = sum(items[k][0] for k in members), sum(items[k][1] for k in members)
                # the square of 2 * sqrt(setups * keeps)
                self.assertEqual(least, (4 * setups * keeps, 1))
                self.assertLessEqual(read_ratio(square), Fraction(9, 8) * read_ratio(least))
                self.assertGreaterEqual(read_ratio(square), read_ratio(least))
                self.assertEqual({type(x) for x in square + least}, {int})
        # the bound is reached at a ratio of 2, from below not quite
        self.assertEqual(cluster_bound(((2, 1),), ()), (((9, 1), (8, 1)),))
        self.assertEqual(cluster_bound(((4, 1), (1, 1)), ()), (((16, 1), (16, 1)), ((4, 1), (4, 1))))

    def test_wrong_values(self):
        fine = (0, 0, 0)
        for value, index in bad_items():
            for rest in ((), None):
                for call, values in ((power_cost, (fine,)), (power_cost, (None,)), (exponents, (rest,)),
                                     (cluster_bound, (rest,)), (keeps_order, (rest, fine)),
                                     (keeps_order, (rest, None))):
                    self.assert_raised(BadItems, {"index": index}, call, value, *values)
        for arcs in bad_arcs():
            for call, values in ((exponents, ()), (cluster_bound, ()), (keeps_order, (fine,)), (keeps_order, (None,))):
                self.assert_raised(BadArcs, {}, call, ITEMS, arcs, *values)
        for powers in bad_exponents():
            self.assert_raised(BadExponents, {}, power_cost, ITEMS, powers)
            self.assert_raised(BadExponents, {}, keeps_order, ITEMS, ((0, 1),), powers)


if __name__ == "__main__":
    unittest.main()
