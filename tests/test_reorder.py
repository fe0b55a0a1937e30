"""Points 28 and 29: stores with chances."""

import itertools
import random
import unittest
from fractions import Fraction

from lotplans.errors import BadAmount, BadLevels, BadPeriod, BadStore, BadValues
from lotplans.reorder import bend, least_store_cost, levels, levels_cost, table_of
from tests.helpers import ODD_VALUES, Case, read_ratio, told

SMALL_STORE = (0, 1, 1, 5, (1, 1, 1), 1)
STORE = (9, 2, 1, 7, (3, 0, 2, 1), 3)

EDGES = [
    SMALL_STORE, STORE, (0, 0, 1, 1, (1,), 1), (99, 98, 99, 99, (0, 0, 0, 0, 20), 4), (99, 0, 1, 1, (1, 1, 1, 1, 1), 4),
    (0, 0, 99, 99, (20, 20, 20, 20, 20), 4), (99, 98, 1, 99, (20, 0, 0, 0, 1), 4), (99, 98, 1, 99, (0, 0, 0, 0, 1), 1),
    (5, 0, 1, 1, (0, 1), 4), (1, 0, 1, 99, (19, 0, 0, 0, 1), 4), (50, 1, 2, 2, (1, 2, 3, 2, 1), 4),
    (0, 3, 1, 9, (0, 0, 5), 3), (7, 3, 1, 9, (1, 0, 5), 2), (98, 98, 1, 99, (1, 1), 1),
]


class Reference:
    """A store by the words of points 28 and 29, as fractions."""

    def __init__(self, store, most=20):
        self.store = store
        self.most = most
        self.known = {}

    def behind(self, period, level):
        """What is expected from the order of a period on, that led to a level."""
        if (period, level) not in self.known:
            setup, unit, holding, owing, weights, periods = self.store
            total = Fraction(0)
            for demand, weight in enumerate(weights):
                left = level - demand
                paid = holding * left if left > 0 else owing * -left
                total += weight * (paid + self.least(period + 1, left))
            self.known[period, level] = total / sum(weights)
        return self.known[period, level]

    def least(self, period, stock):
        """The least of what is expected from a stock on, over all orders up to the greatest level that is tried."""
        setup, unit, periods = self.store[0], self.store[1], self.store[5]
        if period == periods:
            return 0
        if (period, stock, "least") not in self.known:
            costs = [self.behind(period, stock)]
            for level in range(stock + 1, self.most + 1):
                costs.append(setup + unit * (level - stock) + self.behind(period, level))
            self.known[period, stock, "least"] = min(costs)
        return self.known[period, stock, "least"]

    def from_level(self, period, level):
        """The cost from a level on."""
        return self.store[1] * level + self.behind(period, level)

    def pair(self, period):
        """The levels of a period, from the table of the costs from a wide range of levels on."""
        table = {level: self.from_level(period, level) for level in range(-105, self.most + 1)}
        least = min(table.values())
        high = min(level for level in table if table[level] == least)
        low = min(level for level in table if level <= high and
                  all(table[other] <= least + self.store[0] for other in range(level, high + 1)))
        assert low > -105
        return low, high


def cost_of_levels(store, told_levels, stock):
    """What is expected if orders follow levels, by all rows of demands."""
    setup, unit, holding, owing, weights, periods = store
    total = 0
    for demands in itertools.product(range(len(weights)), repeat=periods):
        chance, paid, left = 1, 0, stock
        for demand, (low, high) in zip(demands, told_levels):
            chance *= weights[demand]
            if left < low:
                paid += setup + unit * (high - left)
                left = high
            left -= demand
            paid += holding * max(0, left) + owing * max(0, -left)
        total += chance * paid
    return Fraction(total, sum(weights) ** periods)


def random_store(source, most_periods=4):
    greatest = source.choice([3, 20, 99])
    unit = source.randint(0, greatest - 1)
    weights = [source.randint(0, source.choice([1, 3, 20])) for _ in range(source.randint(1, 5))]
    weights[source.randrange(len(weights))] += not any(weights)
    return (source.randint(0, greatest), unit, source.randint(1, greatest), source.randint(unit + 1, greatest),
            tuple(weights), source.randint(1, most_periods))


def random_stores(seed, times, most_periods=4):
    source = random.Random(seed)
    return [random_store(source, most_periods) for _ in range(times)]


def bad_stores():
    """Values that are not stores, each with the index of its BadStore."""
    found = [(value, None) for value in ODD_VALUES]
    found += [(list(STORE), None), (STORE[:5], None), (STORE + (1,), None), ("abcdef", None), ({}, None)]
    odd = [-1, 100, 10 ** 30, True, False, None, "1", (), (1,), [1], {}]
    for index in (0, 1, 2, 3):
        for thing in odd + ([0] if index > 1 else []) + ([2, 1] if index == 3 else []):
            found.append((STORE[:index] + (thing,) + STORE[index + 1:], index))
    for thing in (0, None, "11", [1, 1], {1: 1}, (), (1,) * 6, (0,), (0, 0, 0), (1, -1), (3, -1), (-1, 3), (1, 21),
                  (1, True), (True,), (1, None), (1, "1"), (1, (1,)), True, (21,), (0, 0, 10 ** 30)):
        found.append((STORE[:4] + (thing, 3), 4))
    for thing in (0, 5, -1, True, False, None, "1", (), (1,), [1], {}, 10 ** 30):
        found.append((STORE[:5] + (thing,), 5))
    # the first one that is not allowed is told, and owing is asked only behind a unit that is allowed
    found += [((-1, -1, 0, 0, (), 0), 0), ((0, 100, 0, 0, (), 0), 1), ((0, None, 1, 5, (1,), 1), 1),
              ((0, 5, 0, 5, (), 0), 2), ((0, 5, 1, 5, (), 0), 3), ((0, 5, 1, 4, (1,), 1), 3), ((0, 5, 1, 6, (), 0), 4),
              ((0, 99, 1, 99, (1,), 1), 3)]
    return found


def bad_stocks():
    """Values that are not integers from -50 to 50."""
    odd = [value for value in ODD_VALUES if not (type(value) is int and -50 <= value <= 50)]
    return odd + [-51, 51, 10 ** 30, -10 ** 30, True, False, "5", (5,), [5], None]


def bad_levels():
    """Values that are not levels of a store with three periods."""
    fine = ((0, 1), (-999, 999), (2, 2))
    found = list(ODD_VALUES) + [list(fine), fine[:2], fine + ((0, 0),), (), "abc", {0: 1, 1: 1, 2: 1}]
    for index in range(3):
        for thing in ((1, 0), (0,), (0, 1, 2), [0, 1], 0, None, "01", (), (-1000, 0), (0, 1000), (True, 1), (0, True),
                      (False, False), (None, 1), ("0", 1), ((0,), 1), {}, (0, 10 ** 30)):
            found.append(fine[:index] + (thing,) + fine[index + 1:])
    return found


class Least(Case):
    def assert_ratio(self, found, expected, why):
        self.assertEqual([type(x) for x in (found,) + found], [tuple, int, int])
        self.assertEqual(found, told(Fraction(expected)), why)

    def test_example(self):
        self.assertEqual(least_store_cost(SMALL_STORE, 0), (3, 1))

    def test_against_all_orders(self):
        for store in random_stores(601, 40, 3):
            # up to more than all periods may ever demand, and far more for one of them
            reference = Reference(store, 25)
            for stock in list(range(-8, 15)) + [-50, 50]:
                self.assert_ratio(least_store_cost(store, stock), reference.least(0, stock), (store, stock))

    def test_against_all_rows_of_orders(self):
        # each order written out, without anything kept
        def least(store, period, stock):
            setup, unit, holding, owing, weights, periods = store
            if period == periods:
                return 0
            found = []
            for level in range(stock, 7):
                paid = Fraction(setup + unit * (level - stock) if level > stock else 0)
                for demand, weight in enumerate(weights):
                    left = level - demand
                    now = holding * left if left >= 0 else owing * -left
                    paid += Fraction(weight, sum(weights)) * (now + least(store, period + 1, left))
                found.append(paid)
            return min(found)

        for store in ((3, 1, 1, 4, (1, 1), 2), (0, 0, 2, 3, (1, 0, 2), 2), (7, 2, 1, 9, (1, 2), 3),
                      (1, 5, 3, 6, (2, 1), 2)):
            for stock in (-1, 0, 1, 3, 6):
                self.assert_ratio(least_store_cost(store, stock), least(store, 0, stock), (store, stock))

    def test_edges(self):
        for store in EDGES:
            reference = Reference(store)
            for stock in (-50, -49, -4, -1, 0, 1, 2, 4, 16, 49, 50):
                self.assert_ratio(least_store_cost(store, stock), reference.least(0, stock), (store, stock))

    def test_one_sure_demand(self):
        # 3 are wanted in the only period: bought at 4 each with a setup of 5, or owed at 7
        store = (5, 4, 2, 7, (0, 0, 0, 1), 1)
        for stock, cost in ((3, 0), (5, 4), (2, 7), (1, 13), (0, 17), (-1, 21), (-10, 57), (50, 94)):
            self.assert_ratio(least_store_cost(store, stock), cost, stock)
        self.assertEqual(levels(store), ((2, 3),))
        # no demand at all: nothing is ever ordered from 0 on
        self.assert_ratio(least_store_cost((5, 4, 2, 7, (1,), 4), 0), 0, 0)
        self.assert_ratio(least_store_cost((5, 4, 2, 7, (20,), 4), 2), 16, 2)
        self.assertEqual(levels((5, 0, 2, 7, (1,), 1)), ((0, 0),))

    def test_one_period(self):
        for store in random_stores(602, 60, 1):
            setup, unit, holding, owing, weights, _ = store

            def paid(level):
                parts = [weight * (holding * max(0, level - demand) + owing * max(0, demand - level))
                         for demand, weight in enumerate(weights)]
                return Fraction(sum(parts), sum(weights))

            for stock in (-50, -3, 0, 1, 4, 50):
                orders = [setup + unit * (level - stock) + paid(level) for level in range(stock + 1, 6)]
                self.assert_ratio(least_store_cost(store, stock), min([paid(stock)] + orders), (store, stock))

    def test_weights_that_are_multiples(self):
        for store in random_stores(603, 20):
            if max(store[4]) <= 4:
                other = store[:4] + (tuple(5 * weight for weight in store[4]), store[5])
                for stock in (-7, 0, 3):
                    self.assertEqual(least_store_cost(store, stock), least_store_cost(other, stock))
                self.assertEqual(levels(store), levels(other))
                scale = 5 ** store[5]
                self.assertEqual(table_of(other, 0, -3, 9), tuple(scale * cost for cost in table_of(store, 0, -3, 9)))

    def test_wrong_values(self):
        for store, index in bad_stores():
            for stock in (0, None, 51):
                self.assert_raised(BadStore, {"index": index}, least_store_cost, store, stock)
        for stock in bad_stocks():
            self.assert_raised(BadAmount, {}, least_store_cost, STORE, stock)


class Levels(Case):
    def test_example(self):
        self.assertEqual(levels(SMALL_STORE), ((1, 1),))

    def test_by_their_words(self):
        for store in EDGES + random_stores(604, 40):
            reference = Reference(store)
            found = levels(store)
            self.assertEqual(found, tuple(reference.pair(period) for period in range(store[5])), store)
            self.assertEqual({type(x) for pair in found for x in (pair,) + pair}, {tuple, int})

    def test_low_far_below_0(self):
        # owing costs one more than buying, so that the setup of 99 pays from 100 units on
        for setup in (0, 1, 50, 99):
            self.assertEqual(levels((setup, 98, 1, 99, (1,), 1)), ((-setup, 0),))
            self.assertEqual(levels((setup, 0, 1, 1, (1,), 1)), ((-setup, 0),))
            self.assertEqual(levels((setup, 98, 1, 99, (0, 0, 0, 0, 1), 1)), ((4 - setup, 4),))

    def test_low_stops_where_the_cost_is_above(self):
        # owing 1 in each of the rest of the periods: 0, -1, .. cost 4, 8, .. more than 0
        self.assertEqual(levels((9, 0, 1, 1, (1,), 4))[0], (-2, 0))
        self.assertEqual(levels((7, 0, 1, 1, (1,), 4))[0], (-1, 0))
        self.assertEqual(levels((8, 0, 1, 1, (1,), 4))[0], (-2, 0))

    def test_high_is_the_least_level_with_the_least_cost(self):
        # 1 and 2 cost the same
        self.assertEqual(table_of(SMALL_STORE, 0, 0, 3), (15, 9, 9, 15))
        self.assertEqual(levels(SMALL_STORE), ((1, 1),))

    def test_told_levels_cost_least_from_each_stock_on(self):
        for store in EDGES[:8] + random_stores(605, 12):
            found = levels(store)
            for stock in range(-50, 51, 5):
                self.assertEqual(levels_cost(store, found, stock), least_store_cost(store, stock), (store, stock))

    def test_cost_of_levels_by_all_rows_of_demands(self):
        source = random.Random(61)
        more = 0
        for store in EDGES + random_stores(606, 80):
            told_levels = levels(store)
            drawn = []
            for _ in told_levels:
                low = source.choice([source.randint(-9, 9), source.randint(-999, 999)])
                drawn.append((low, source.choice([low, min(999, low + source.randint(0, 9))])))
            near = tuple((low, high + source.randint(0, 1)) for low, high in told_levels)
            for value in (told_levels, tuple(drawn), near, ((-999, -999),) * store[5], ((999, 999),) * store[5]):
                stock = source.choice([-50, 50, 0, source.randint(-9, 9)])
                found = levels_cost(store, value, stock)
                self.assertEqual([type(x) for x in (found,) + found], [tuple, int, int])
                self.assertEqual(found, told(cost_of_levels(store, value, stock)), (store, value, stock))
                self.assertGreaterEqual(read_ratio(found), read_ratio(least_store_cost(store, stock)))
                more += read_ratio(found) > read_ratio(least_store_cost(store, stock))
        self.assertGreater(more, 100)

    def test_an_order_is_placed_only_below_low(self):
        store = (5, 4, 2, 7, (0, 0, 0, 1), 1)
        for pair, cost in (((2, 3), 7), ((3, 3), 9), ((3, 4), 15), ((1, 3), 7), ((-5, 999), 7), ((2, 2), 7)):
            self.assertEqual(levels_cost(store, (pair,), 2), (cost, 1), pair)
        # the setup is paid whenever an order is placed
        self.assertEqual(levels_cost((9, 1, 1, 2, (1,), 2), ((0, 0), (0, 0)), -1), (10, 1))
        self.assertEqual(levels_cost((9, 1, 1, 2, (0, 1), 2), ((0, 0), (0, 0)), -1), (9 + 1 + 2 + 9 + 1 + 2, 1))

    def test_wrong_values(self):
        for store, index in bad_stores():
            self.assert_raised(BadStore, {"index": index}, levels, store)
            for value, stock in ((((0, 1),) * 3, 0), (None, None), ((), 51)):
                self.assert_raised(BadStore, {"index": index}, levels_cost, store, value, stock)
        for value in bad_levels():
            for stock in (0, None, 51):
                self.assert_raised(BadLevels, {}, levels_cost, STORE, value, stock)
        for stock in bad_stocks():
            self.assert_raised(BadAmount, {}, levels_cost, STORE, ((0, 1), (-999, 999), (2, 2)), stock)


class Tables(Case):
    def test_by_their_words(self):
        for store in EDGES + random_stores(607, 30):
            reference = Reference(store)
            for period in range(store[5]):
                scale = sum(store[4]) ** (store[5] - period)
                found = table_of(store, period, -50, 50)
                self.assertEqual({type(x) for x in (found,) + found}, {tuple, int})
                expected = [reference.from_level(period, level) * scale for level in range(-50, 51)]
                self.assertEqual(list(found), expected, (store, period))

    def test_edges_of_the_range(self):
        whole = table_of(STORE, 1, -50, 50)
        self.assertEqual(len(whole), 101)
        for least, most in ((-50, -50), (50, 50), (0, 0), (-50, 49), (-49, 50), (-1, 1), (7, 20)):
            self.assertEqual(table_of(STORE, 1, least, most), whole[least + 50:most + 51])

    def test_no_bend_in_the_tables_of_stores(self):
        for store in EDGES + random_stores(608, 25):
            for period in range(store[5]):
                setup = store[0] * sum(store[4]) ** (store[5] - period)
                self.assertIsNone(bend(table_of(store, period, -12, 24), setup), (store, period))

    def test_wrong_values(self):
        for store, index in bad_stores():
            for period, least, most in ((0, 0, 0), (None, None, None), (9, 51, -51)):
                self.assert_raised(BadStore, {"index": index}, table_of, store, period, least, most)
        odd = [value for value in ODD_VALUES if not (type(value) is int and 0 <= value < 3)]
        for period in odd + [3, -1, 10 ** 30, True, "0", (0,), None]:
            for least, most in ((0, 0), (None, None), (5, 4)):
                self.assert_raised(BadPeriod, {}, table_of, STORE, period, least, most)
        for value in bad_stocks():
            self.assert_raised(BadAmount, {}, table_of, STORE, 0, value, 50)
            self.assert_raised(BadAmount, {}, table_of, STORE, 0, value, value)
            self.assert_raised(BadAmount, {}, table_of, STORE, 0, -50, value)
        for least, most in ((1, 0), (50, -50), (-49, -50)):
            self.assert_raised(BadAmount, {}, table_of, STORE, 0, least, most)


def first_bend(values, setup):
    """bend by the words of point 29."""
    found = [(a, b, c) for a in range(len(values)) for b in range(len(values)) for c in range(len(values))
             if a < b <= c and (setup + values[c] - values[b]) * (b - a) < (values[b] - values[a]) * (c - b)]
    return min(found, default=None)


class Bend(Case):
    def test_examples(self):
        self.assertEqual(bend((0, 5, 0), 2), (0, 1, 2))
        self.assertIsNone(bend((0, 5, 0), 10))

    def test_at_the_edge(self):
        self.assertEqual(bend((0, 5, 0), 9), (0, 1, 2))
        # twice the way back takes twice the rise away
        self.assertEqual(bend((0, 5, 0, 0), 14), (0, 1, 3))
        self.assertIsNone(bend((0, 5, 0, 0), 15))
        self.assertEqual(bend((0, 0, 5, 0), 7), (0, 2, 3))
        self.assertEqual(bend((0, 0, 5, 0), 9), (1, 2, 3))

    def test_against_its_words(self):
        source = random.Random(62)
        seen = {True: 0, False: 0}
        for _ in range(1500):
            size, most = source.randint(0, 8), source.choice([2, 9, 10 ** 20])
            values = tuple(source.randint(-most, most) for _ in range(size))
            setup = source.choice([0, 1, source.randint(0, most), source.randint(0, 5 * most)])
            found = bend(values, setup)
            self.assertEqual(found, first_bend(values, setup), (values, setup))
            if found is not None:
                self.assertEqual([type(x) for x in (found,) + found], [tuple, int, int, int])
            seen[found is None] += 1
        self.assertGreater(min(seen.values()), 200)

    def test_none_where_nothing_bends(self):
        for values in ((), (5,), (5, -5), (0, 1), (0, 1, 2, 3), (9, 4, 1, 0, 1, 4, 9), (-1,) * 40,
                       tuple(k * k for k in range(-20, 21))):
            for setup in (0, 3, 10 ** 30):
                self.assertIsNone(bend(values, setup))
        self.assertEqual(bend((0, 1, 1), 0), (0, 1, 2))

    def test_wrong_values(self):
        wrong = [value for value in ODD_VALUES
                 if not (type(value) is tuple and all(type(thing) is int for thing in value))]
        for values in wrong + [(1, 2, True), (1, None), (1, "2"), [1, 2], (1, (2,)), {1: 2}, "12", (True,), (False, 1)]:
            for setup in (0, None, -1):
                self.assert_raised(BadValues, {}, bend, values, setup)
        odd = [value for value in ODD_VALUES if not (type(value) is int and value >= 0)]
        for setup in odd + [-1, -10 ** 30, True, False, None, "1", (1,)]:
            for values in ((), (1, 2, 3)):
                self.assert_raised(BadAmount, {}, bend, values, setup)
        for setup in (0, 10 ** 40):
            self.assertIsNone(bend((), setup))


if __name__ == "__main__":
    unittest.main()
