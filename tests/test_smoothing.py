"""Points 22 and 23: even amounts and transfers."""

import itertools
import random
import unittest
from fractions import Fraction

from lotplans.errors import BadAmounts, BadRooms
from lotplans.smoothing import even, fits_rooms, shows_transfers, transfers, uneven_at
from tests.helpers import ODD_VALUES, Case, read_ratio, told

RATIO_LIKE = [-1, 0, 2, True, None, "1", (), (1,), (1, 2, 3), [1, 2], {}, (2, 4), (0, 2), (1, 0), (0, 0), (1, -2),
              (True, 1), (1, True), (0, True), (None, 1), ("1", 1), ((1, 1), 1), "11"]


def levels(demands, amounts):
    """The stocks, as fractions."""
    return [sum(amounts[:k + 1], Fraction(0)) - sum(demands[:k + 1]) for k in range(len(demands))]


def fit(demands, rooms, amounts):
    """fits_rooms by its words, for fractions."""
    stocks = levels(demands, amounts)
    return min(amounts) >= 0 and stocks[-1] == 0 and all(0 <= stock <= room for stock, room in zip(stocks, rooms))


def told_all(fractions):
    return tuple(told(Fraction(x)) for x in fractions)


def random_cases(seed, times, longest=12):
    source = random.Random(seed)
    found = []
    for _ in range(times):
        many = source.randint(1, longest)
        most, room = source.choice([(3, 2), (9, 5), (999, 999), (1, 1), (999, 40), (20, 100), (5, 0)])
        demands = tuple(source.randint(0, most) if source.random() < 0.8 else 0 for _ in range(many))
        found.append((demands, tuple(source.randint(0, room) for _ in range(many))))
    return found


EDGE_CASES = [
    ((0,), (0,)), ((999,), (999,)), ((0,) * 12, (999,) * 12), ((999,) * 12, (0,) * 12), ((999,) * 12, (999,) * 12),
    ((0, 0, 5), (0, 0, 0)), ((5, 0, 0), (9, 9, 9)), ((0, 5, 0), (9, 1, 9)), ((1, 2, 6), (1, 9, 9)),
    ((9, 0, 9, 0), (1, 1, 1, 1)), ((0, 0, 0, 9), (9, 0, 9, 9)), ((1,) * 12, (999,) * 12),
]


def drawn_amounts(demands, rooms, source):
    """Amounts that fit, by drawing a stock within each room that no amount below 0 leads to."""
    stocks, before, amounts = [], Fraction(0), []
    for period, demand in enumerate(demands):
        low, high = max(Fraction(0), before - demand), Fraction(rooms[period])
        if period == len(demands) - 1:
            stock = Fraction(0)
        elif low >= high:
            stock = low
        else:
            stock = low + (high - low) * Fraction(source.randint(0, 12), 12)
        amounts.append(stock + demand - before)
        stocks.append(stock)
        before = stock
    return amounts


def bad_pairs():
    """Values that are not demands and rooms that go together."""
    found = [(value, (1, 2, 3)) for value in ODD_VALUES] + [((1, 2, 3), value) for value in ODD_VALUES]
    found += [(value, value) for value in ODD_VALUES if not (type(value) is tuple and value in ((0,), (1,)))]
    for index in range(3):
        for thing in (-1, 1000, True, False, None, "1", (), [1], {}, 10 ** 30, (1, 1)):
            row = [1, 2, 3]
            row[index] = thing
            found += [(tuple(row), (1, 2, 3)), ((1, 2, 3), tuple(row)), (tuple(row), tuple(row))]
    found += [((1, 2), (1, 2, 3)), ((1, 2, 3), (1, 2)), ((), ()), ((1,) * 13, (1,) * 13), ([1, 2], (1, 2)),
              ((1, 2), [1, 2]), ("12", "12"), ({0: 1}, {0: 1}), ((1,) * 12, (1,) * 13)]
    return found


class Fits(Case):
    def test_just_within_and_just_outside(self):
        small = Fraction(1, 10 ** 12)
        demands, rooms = (2, 3, 4), (3, 1, 0)
        for amounts in ((2, 3, 4), (5, 1, 3), (5, 0, 4), (Fraction(7, 2), 2, Fraction(7, 2)), (4, 2, 3)):
            self.assertIs(fits_rooms(demands, rooms, told_all(amounts)), True)
        for amounts, answer in (((5 + small, 1 - small, 3), False), ((5 - small, 1 + small, 3), True),
                                ((5, 1 + small, 3 - small), False), ((5, 1 - small, 3 + small), True),
                                ((2 - small, 3 + small, 4), False), ((2, 3 - small, 4 + small), False),
                                ((2, 3, 4 + small), False), ((2, 3, 4 - small), False),
                                ((5, 1, 3 - small), False), ((2 + small, 3, 4 - small), True)):
            self.assertIs(fits_rooms(demands, rooms, told_all(amounts)), answer, amounts)

    def test_amounts_below_0(self):
        # the stocks fit, but one amount is below 0
        self.assertIs(fits_rooms((1, 1, 1), (9, 9, 9), ((4, 1), (-1, 1), (0, 1))), False)
        self.assertIs(fits_rooms((1, 1, 1), (9, 9, 9), ((3, 1), (0, 1), (0, 1))), True)
        self.assertIs(fits_rooms((1, 1, 1), (9, 9, 9), ((5, 2), (-1, 10 ** 20), (10 ** 20 // 2 + 1, 10 ** 20))), False)

    def test_the_last_room_does_not_matter(self):
        for last in (0, 5, 999):
            self.assertIs(fits_rooms((1, 1), (1, last), ((2, 1), (0, 1))), True)
            self.assertIs(fits_rooms((1, 1), (1, last), ((2, 1), (1, 1))), False)

    def test_against_its_words(self):
        source = random.Random(31)
        seen = {True: 0, False: 0}
        for demands, rooms in random_cases(301, 300, 6):
            amounts = drawn_amounts(demands, rooms, source)
            for _ in range(6):
                answer = fits_rooms(demands, rooms, told_all(amounts))
                self.assertIs(answer, fit(demands, rooms, amounts), (demands, rooms, amounts))
                seen[answer] += 1
                one, other = source.randrange(len(amounts)), source.randrange(len(amounts))
                moved = Fraction(source.randint(0, 3), source.randint(1, 5))
                amounts = list(amounts)
                amounts[one] -= moved
                amounts[other] += moved
        self.assertGreater(min(seen.values()), 300)

    def test_values_of_all_kinds(self):
        for value in ODD_VALUES + [((2, 1), (3, 1)), ((2, 1),) * 4, [(2, 1), (3, 1), (4, 1)], (2, 3, 4)]:
            self.assertIs(fits_rooms((2, 3, 4), (9, 9, 9), value), False)
        for index in range(3):
            for thing in RATIO_LIKE:
                value = [(2, 1), (3, 1), (4, 1)]
                value[index] = thing
                self.assertIs(fits_rooms((2, 3, 4), (9, 9, 9), tuple(value)), False, value)
        # each of these is worth what is asked for, but is no ratio
        for first in ((4, 2), (-2, -1), (2, True), [2, 1], 2, "2"):
            self.assertIs(fits_rooms((2,), (0,), (first,)), False)
        self.assertIs(fits_rooms((1,), (0,), ((True, 1),)), False)
        self.assertIs(fits_rooms((1,), (0,), ((1, 1),)), True)

    def test_wrong_values(self):
        for demands, rooms in bad_pairs():
            for amounts in (((2, 1), (3, 1), (4, 1)), None):
                self.assert_raised(BadRooms, {}, fits_rooms, demands, rooms, amounts)


class Even(Case):
    def assert_even(self, demands, rooms):
        """That all fits, and that more is made only behind a full room, and less only behind an empty one."""
        found = even(demands, rooms)
        self.assertIs(type(found), tuple)
        self.assertIs(fits_rooms(demands, rooms, found), True, (demands, rooms, found))
        amounts = [read_ratio(x) for x in found]
        self.assertEqual(found, told_all(amounts))
        self.assertTrue(fit(demands, rooms, amounts))
        for period, stock in enumerate(levels(demands, amounts)[:-1]):
            if amounts[period + 1] > amounts[period]:
                self.assertEqual(stock, rooms[period], (demands, rooms, found))
            if amounts[period + 1] < amounts[period]:
                self.assertEqual(stock, 0, (demands, rooms, found))
        return amounts

    def test_examples(self):
        self.assertEqual(even((1, 2, 6), (9, 9, 9)), ((3, 1), (3, 1), (3, 1)))
        self.assertEqual(even((1, 2, 6), (1, 9, 9)), ((2, 1), (7, 2), (7, 2)))

    def test_bends(self):
        for demands, rooms in EDGE_CASES + random_cases(302, 800):
            self.assert_even(demands, rooms)

    def test_all_small_ones(self):
        for many in (1, 2, 3):
            for demands in itertools.product(range(4), repeat=many):
                for rooms in itertools.product((0, 1, 3), repeat=many):
                    self.assert_even(demands, rooms)

    def test_rooms_of_0(self):
        for demands, _ in EDGE_CASES + random_cases(303, 30):
            self.assertEqual(even(demands, (0,) * len(demands)), told_all(demands))

    def test_rooms_of_999(self):
        # the amounts fall by the greatest averages of the demands from there on
        for demands, _ in EDGE_CASES + random_cases(304, 60):
            if sum(demands) <= 999:
                expected, rest = [], list(demands)
                while rest:
                    count, average = max(((k, Fraction(sum(rest[:k]), k)) for k in range(1, len(rest) + 1)),
                                         key=lambda pair: (pair[1], pair[0]))
                    expected += [average] * count
                    rest = rest[count:]
                self.assertEqual(even(demands, (999,) * len(demands)), told_all(expected))

    def test_demands_of_0(self):
        for many in range(1, 13):
            for room in (0, 1, 999):
                self.assertEqual(even((0,) * many, (room,) * many), ((0, 1),) * many)
        self.assertEqual(even((0, 0, 6), (0, 9, 9)), ((0, 1), (3, 1), (3, 1)))
        self.assertEqual(even((0, 0, 6), (9, 0, 9)), ((0, 1), (0, 1), (6, 1)))
        self.assertEqual(even((6, 0, 0), (9, 9, 9)), ((6, 1), (0, 1), (0, 1)))
        self.assertEqual(even((0, 6, 0, 0, 4), (9, 9, 9, 1, 9)), ((3, 1), (3, 1), (1, 2), (1, 2), (3, 1)))

    def test_the_last_room_does_not_matter(self):
        for demands, rooms in random_cases(305, 40):
            self.assertEqual(len({even(demands, rooms[:-1] + (last,)) for last in (0, 3, 999)}), 1)

    def test_a_room_that_shrinks(self):
        self.assertEqual(even((0, 0, 0, 9), (9, 1, 9, 9)), ((1, 2), (1, 2), (4, 1), (4, 1)))
        self.assertEqual(even((1, 1, 8, 0), (9, 9, 0, 9)), ((10, 3), (10, 3), (10, 3), (0, 1)))

    def test_against_other_amounts_that_fit(self):
        source = random.Random(32)
        others = 0
        for demands, rooms in EDGE_CASES + random_cases(306, 200):
            amounts = self.assert_even(demands, rooms)
            for _ in range(10):
                other = drawn_amounts(demands, rooms, source)
                for share in (Fraction(1), Fraction(1, 100)):
                    near = [x + (y - x) * share for x, y in zip(amounts, other)]
                    if fit(demands, rooms, near):
                        self.assertLessEqual(sum(x * x for x in amounts), sum(x * x for x in near))
                        self.assertLessEqual(max(amounts), max(near))
                        self.assertGreaterEqual(min(amounts), min(near))
                        self.assertEqual(sum(x * x for x in near) == sum(x * x for x in amounts), near == amounts)
                        others += near != amounts
        self.assertGreater(others, 1000)

    def test_against_all_whole_amounts(self):
        for demands in itertools.product((0, 1, 2, 4), repeat=3):
            for rooms in itertools.product((0, 1, 2, 5), repeat=2):
                least = sum(x * x for x in self.assert_even(demands, rooms + (0,)))
                for first in range(sum(demands) + 1):
                    for second in range(sum(demands) - first + 1):
                        other = (first, second, sum(demands) - first - second)
                        if fit(demands, rooms + (0,), other):
                            self.assertLessEqual(least, sum(x * x for x in other))

    def test_wrong_values(self):
        for demands, rooms in bad_pairs():
            self.assert_raised(BadRooms, {}, even, demands, rooms)


def sums(values):
    """The sums of the 1, 2, .. greatest parts."""
    parts = sorted((read_ratio(x) for x in values), reverse=True)
    return [sum(parts[:k + 1]) for k in range(len(parts))]


def first_uneven(one, other):
    for many, (high, low) in enumerate(zip(sums(one), sums(other)), start=1):
        if high < low:
            return many
    return None


def leads(one, other, steps):
    """Point 23 step by step, for steps of the right form."""
    parts = sorted((read_ratio(x) for x in one), reverse=True)
    for start, goal, moved in steps:
        moved = read_ratio(moved)
        if start == goal or not 0 < moved <= parts[start] - parts[goal]:
            return False
        parts[start] -= moved
        parts[goal] += moved
    return sorted(parts) == sorted(read_ratio(x) for x in other)


def random_ratios(many, source):
    low = source.choice([0, 0, -6])
    bottom = source.choice([1, 1, 2, 6])
    return [Fraction(source.randint(low, 8), source.randint(1, bottom)) for _ in range(many)]


def random_pairs(seed, times, longest=12):
    """Pairs of tuples of ratios with the same length and sum; often the other one is more even."""
    source = random.Random(seed)
    found = []
    for _ in range(times):
        many = source.randint(1, longest)
        one = random_ratios(many, source)
        if source.random() < 0.6:
            other = list(one)
            for _ in range(source.randint(0, 6)):
                first, second = source.randrange(many), source.randrange(many)
                moved = (other[first] - other[second]) * Fraction(source.randint(0, 4), 4)
                other[first] -= moved
                other[second] += moved
            source.shuffle(other)
        else:
            other = random_ratios(many, source)
            other[source.randrange(many)] += sum(one) - sum(other)
        if source.random() < 0.2:
            one, other = other, one
        found.append((told_all(one), told_all(other)))
    return found


EVEN_PAIRS = [
    (((3, 1), (1, 1)), ((2, 1), (2, 1))), (((0, 1),), ((0, 1),)), (((-1, 2),), ((-1, 2),)),
    (((1, 1),) * 12, ((1, 1),) * 12), (((12, 1),) + ((0, 1),) * 11, ((1, 1),) * 12),
    (((1, 1), (3, 1)), ((3, 1), (1, 1))), (((10 ** 30, 1), (0, 1)), ((10 ** 30 - 1, 1), (1, 1))),
    (((1, 1), (-1, 1)), ((0, 1), (0, 1))), (((5, 1), (3, 1), (1, 1)), ((4, 1), (4, 1), (1, 1))),
    (((6, 1), (1, 1), (1, 1), (0, 1)), ((3, 1), (3, 1), (2, 1), (0, 1))),
]


def bad_amount_pairs():
    """Values that are not two tuples of ratios with the same length and sum."""
    fine = ((3, 1), (1, 1), (1, 2))
    found = [(value, fine) for value in ODD_VALUES] + [(fine, value) for value in ODD_VALUES]
    found += [(value, value) for value in ODD_VALUES]
    for index in range(3):
        for thing in RATIO_LIKE:
            row = list(fine)
            row[index] = thing
            found += [(tuple(row), fine), (fine, tuple(row)), (tuple(row), tuple(row))]
    found += [(list(fine), fine), (fine, list(fine)), (fine[:2], fine), (fine, fine + ((0, 1),)), ((), ()),
              (((1, 1),) * 13, ((1, 1),) * 13), (fine, ((3, 1), (1, 1), (1, 3))), (fine, ((3, 1), (1, 1), (-1, 2))),
              (((2, 1),), ((1, 1), (1, 1))), (((0, 1),), ((1, 10 ** 30),))]
    return found


class Transfers(Case):
    def test_examples(self):
        self.assertEqual(uneven_at(((2, 1), (2, 1)), ((3, 1), (1, 1))), 1)
        self.assertIs(shows_transfers(((3, 1), (1, 1)), ((2, 1), (2, 1)), ((0, 1, (1, 2)), (0, 1, (1, 2)))), True)

    def test_uneven_at_by_the_sums_of_greatest_parts(self):
        seen = {}
        for one, other in EVEN_PAIRS + random_pairs(307, 1500):
            found = uneven_at(one, other)
            self.assertEqual((type(found), found), (type(first_uneven(one, other)), first_uneven(one, other)))
            seen[found] = True
        self.assertLess({None, 1, 2, 3, 4, 5}, set(seen))

    def test_uneven_at_behind_equal_sums(self):
        for many in range(2, 7):
            one = ((5, 1),) * (many - 1) + ((2, 1), (2, 1), (0, 1))
            other = ((5, 1),) * (many - 1) + ((3, 1), (1, 1), (0, 1))
            self.assertEqual(uneven_at(one, other), many)
            self.assertIsNone(uneven_at(other, one))
            self.assertIsNone(uneven_at(one, one))

    def test_transfers_lead_there(self):
        steps = {}
        for one, other in EVEN_PAIRS + random_pairs(308, 1500):
            found = transfers(one, other)
            if first_uneven(one, other) is not None:
                self.assertIsNone(found)
                continue
            self.assertIs(type(found), tuple)
            for step in found:
                self.assertEqual((type(step), [type(x) for x in step]), (tuple, [int, int, tuple]))
                self.assertEqual(step[2], told(read_ratio(step[2])))
            self.assertTrue(leads(one, other, found), (one, other, found))
            self.assertIs(shows_transfers(one, other, found), True)
            steps[len(found)] = True
        self.assertLess({0, 1, 2, 3, 4, 5, 6}, set(steps))

    def test_equal_tuples(self):
        for one, other in EVEN_PAIRS + random_pairs(309, 50):
            for value in (one, other):
                self.assertEqual(transfers(value, value), ())
                self.assertEqual(transfers(value, value[::-1]), ())
                self.assertIs(shows_transfers(value, value[::-1], ()), True)
            if sorted(one) != sorted(other):
                self.assertIs(shows_transfers(one, other, ()), False)

    def test_places_are_those_of_the_falling_order(self):
        one, other = ((1, 1), (5, 1), (3, 1)), ((3, 1), (3, 1), (3, 1))
        self.assertIs(shows_transfers(one, other, ((0, 2, (2, 1)),)), True)
        self.assertIs(shows_transfers(one, other, ((1, 0, (2, 1)),)), False)
        # a third is less than a half, though 3 is more than 2
        self.assertIs(shows_transfers(((1, 3), (1, 2)), ((5, 12), (5, 12)), ((0, 1, (1, 12)),)), True)
        self.assertIs(shows_transfers(((1, 3), (1, 2)), ((5, 12), (5, 12)), ((1, 0, (1, 12)),)), False)

    def test_places_keep_their_numbers(self):
        # behind the first transfer the part at place 1 is the greater one, and gives back
        one, other = ((4, 1), (0, 1)), ((2, 1), (2, 1))
        self.assertIs(shows_transfers(one, other, ((0, 1, (3, 1)), (1, 0, (1, 1)))), True)
        self.assertIs(shows_transfers(one, other, ((0, 1, (3, 1)), (0, 1, (1, 1)))), False)

    def test_a_transfer_at_its_edges(self):
        one, other = ((4, 1), (1, 1)), ((1, 1), (4, 1))
        for moved, answer in (((3, 1), True), ((4, 1), False), ((31, 10), False), ((2, 1), False), ((-3, 1), False),
                              ((0, 1), False)):
            self.assertIs(shows_transfers(one, other, ((0, 1, moved),)), answer)
        self.assertIs(shows_transfers(one, one, ((0, 1, (3, 1)), (1, 0, (3, 1)))), True)
        self.assertIs(shows_transfers(one, one, ((0, 1, (0, 1)),)), False)
        self.assertIs(shows_transfers(one, one, ((0, 0, (1, 1)),)), False)
        self.assertIs(shows_transfers(one, one, ((1, 0, (1, 1)), (0, 1, (1, 1)))), False)

    def test_changed_ones(self):
        source = random.Random(33)
        seen = {True: 0, False: 0}
        for one, other in random_pairs(310, 500):
            steps = [list(step) for step in transfers(one, other) or ()]
            if not steps:
                continue
            change, place = source.randrange(6), source.randrange(len(steps))
            if change == 0:
                steps[place][2] = told(read_ratio(steps[place][2]) + Fraction(1, source.choice([2, 10 ** 9])))
            elif change == 1:
                steps[place][2] = told(read_ratio(steps[place][2]) * Fraction(1, 2))
            elif change == 2:
                steps[place][:2] = steps[place][1::-1]
            elif change == 3:
                steps.pop(place)
            elif change == 4:
                half = told(read_ratio(steps[place][2]) / 2)
                steps[place:place + 1] = [steps[place][:2] + [half]] * 2
            else:
                source.shuffle(steps)
            value = tuple(tuple(step) for step in steps)
            answer = shows_transfers(one, other, value)
            self.assertIs(answer, leads(one, other, value), (one, other, value))
            seen[answer] += 1
        self.assertGreater(min(seen.values()), 30)

    def test_values_of_all_kinds(self):
        one, other = ((3, 1), (1, 1)), ((2, 1), (2, 1))
        self.assertIs(shows_transfers(one, other, ((0, 1, (1, 1)),)), True)
        for value in ODD_VALUES + [[(0, 1, (1, 1))], {0: (0, 1, (1, 1))}, ((0, 1),), ((0, 1, (1, 1), 0),),
                                   ([0, 1, (1, 1)],), ((0, 1, 1),), (0, 1, (1, 1))]:
            self.assertIs(shows_transfers(one, other, value), False)
        for index, things in ((0, [-1, 1, 2, False, None, "0", (0,), [0]]),
                              (1, [-1, 0, 2, True, None, "1", (1,), [1]]),
                              (2, RATIO_LIKE + [[1, 1], (2, 2), (-1, -1), (True, True)])):
            for thing in things:
                step = [0, 1, (1, 1)]
                step[index] = thing
                self.assertIs(shows_transfers(one, other, (tuple(step),)), False, step)
        # nothing leads to what is less even
        for value in ((), ((0, 1, (1, 1)),), ((1, 0, (1, 1)),), None):
            self.assertIs(shows_transfers(other, one, value), False)

    def test_wrong_values(self):
        for one, other in bad_amount_pairs():
            for call, rest in ((uneven_at, ()), (transfers, ()), (shows_transfers, ((),)), (shows_transfers, (None,))):
                self.assert_raised(BadAmounts, {}, call, one, other, *rest)


if __name__ == "__main__":
    unittest.main()
