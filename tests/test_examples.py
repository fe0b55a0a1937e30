"""Every example of the document's interface, value by value."""

import unittest

from lotplans.aged import fresh_cost
from lotplans.books import Book
from lotplans.capped import capped_cost, first_short
from lotplans.errors import BadPlan, InvalidText, NothingToUndo
from lotplans.families import cluster_bound, clusters, exponents, power_cost
from lotplans.horizons import firm, last_starts
from lotplans.intervals import least_cost, least_plan, stage_costs
from lotplans.joint import joint_bound, joint_cost
from lotplans.late import late_stages
from lotplans.lines import line_cost
from lotplans.mixing import broken_mix, mix_corners, mixing_gap
from lotplans.mixtures import mixture
from lotplans.points import broken_row, by_rows, row_gap
from lotplans.prices import group_cost, shows_prices
from lotplans.problems import cost, improved, plan_of, stocks
from lotplans.ranges import setup_range, worth
from lotplans.reorder import bend, least_store_cost, levels
from lotplans.rooms import roomed_cost
from lotplans.rules import supported, tradeoffs
from lotplans.smoothing import even, shows_transfers, uneven_at
from lotplans.texts import read, write
from lotplans.trucks import least_truck_cost
from tests.helpers import Case

SMALL = ((2, 3, 4), (10, 10, 10), (0, 0, 0), (1, 1, 1))
FAR = ((5, 1, 9), (4, 4, 4), (0, 0, 0), (2, 2, 2))
TWO = ((1, 1), (5, 3), (0, 0), (1, 1))
HALF = (((3, 2), (1, 2)), ((1, 1), (1, 2)))
THIN = (((3, 2), (1, 2)), ((1, 1), (1, 4)))


class Examples(Case):
    def test_problems(self):
        self.assertEqual(
            [stocks(SMALL, (4, 1, 4)), cost(SMALL, (4, 1, 4)), improved(SMALL, (4, 1, 4)), plan_of(SMALL, (0, 2))],
            [(2, 0, 0), 32, (2, 3, 4), (5, 0, 4)])
        self.assert_raised(BadPlan, {"index": 3}, cost, SMALL, (4, 1, 5))

    def test_texts(self):
        self.assertEqual(write(((2, 3), (10, 10), (0, 0), (1, 1))),
                         "demands 2 3\nsetups 10 10\nunits 0 0\nholdings 1 1")
        self.assert_raised(InvalidText, {"line": 2, "word": 3}, read, "demands 2 3\nsetups 10")

    def test_intervals(self):
        self.assertEqual([least_cost(SMALL), least_plan(SMALL), stage_costs(SMALL)], [21, (9, 0, 0), (0, 10, 13, 21)])

    def test_prices(self):
        self.assertEqual([shows_prices(SMALL, (10, 3, 8)), shows_prices(SMALL, (7, 7, 7)),
                          group_cost(SMALL, ((2, 0, 0), (0, 3, 4)), (1,))], [True, False, 14])

    def test_points(self):
        self.assertEqual(
            [broken_row(TWO, HALF), broken_row(TWO, THIN), row_gap(TWO, THIN, (1, (1,))), mixture(TWO, HALF),
             by_rows(TWO)[0]],
            [None, (1, (1,)), (-1, 4), (((1, 2), (1, 1), (1, 1)), ((1, 2), (2, 0), (1, 0))), (6, 1)])

    def test_horizons(self):
        self.assertEqual([last_starts(FAR), firm(FAR)], [((0,), (0,), (2,)), (6, 0)])

    def test_ranges_and_rules(self):
        self.assertEqual([worth(FAR, 1), setup_range(FAR, (6, 0, 9), 1), tradeoffs(FAR)],
                         [2, (2, None), ((4, 38), (8, 2), (12, 0))])
        self.assertEqual(supported(FAR), (((4, 38), (9, 1)), ((8, 2), (1, 2)), ((12, 0), (0, 1))))

    def test_further_conditions(self):
        owing = ((2, 0, 0), (10, 0, 10), (0, 0, 0), (5, 5, 5))
        self.assertEqual(
            [capped_cost(SMALL, 3), first_short(SMALL, 2), roomed_cost(SMALL, (3, 0, 0)), least_truck_cost(SMALL, 5),
             fresh_cost(SMALL, 2), late_stages(owing, (4, 4, 4))], [32, 1, 23, 23, 23, (0, 10, 8, 8)])

    def test_smoothing(self):
        self.assertEqual(
            [even((1, 2, 6), (9, 9, 9)), even((1, 2, 6), (1, 9, 9)), uneven_at(((2, 1), (2, 1)), ((3, 1), (1, 1)))],
            [((3, 1), (3, 1), (3, 1)), ((2, 1), (7, 2), (7, 2)), 1])
        steps = ((0, 1, (1, 2)), (0, 1, (1, 2)))
        self.assertIs(shows_transfers(((3, 1), (1, 1)), ((2, 1), (2, 1)), steps), True)

    def test_mixing(self):
        halves = ((3, 2),)
        self.assertEqual(
            [mix_corners(halves), broken_mix(halves, ((0, 1), ((3, 2),))),
             mixing_gap(halves, ((0, 1), ((3, 2),)), ((0,), False))],
            [[((0, 1), (2,)), ((1, 2), (1,))], ((0,), False), (-1, 4)])

    def test_families(self):
        items = ((8, 1), (1, 1), (18, 2))
        self.assertEqual(
            [clusters(items, ()), clusters(items, ((1, 0),)), exponents(items, ()), power_cost(items, (1, 0, 2))],
            [(((9, 1), (2,)), ((8, 1), (0,)), ((1, 1), (1,))), (((9, 1), (2,)), ((9, 2), (0, 1))), (2, 0, 2), (41, 2)])
        self.assertEqual(cluster_bound(((8, 1),), ()), (((36, 1), (32, 1)),))

    def test_reorder(self):
        store = (0, 1, 1, 5, (1, 1, 1), 1)
        self.assertEqual([levels(store), least_store_cost(store, 0), bend((0, 5, 0), 2), bend((0, 5, 0), 10)],
                         [((1, 1),), (3, 1), (0, 1, 2), None])

    def test_lines_and_joint(self):
        small = ((2, 3), (4, 4), (0, 0), (1, 1))
        line = ((2, 3), (((4, 4), (0, 0), (0, 0)), ((1, 1), (0, 0), (9, 9))))
        joint = ((6, 6), (small, small))
        self.assertEqual([line_cost(line), joint_cost(joint), joint_bound(joint, ((3, 3), (3, 3)))], [6, 20, 20])

    def test_books(self):
        book = Book(((2, 3), (4, 4), (0, 0), (1, 1)))
        self.assertEqual(
            [book.trial(("set", "holdings", 0, 9)), book.edit(("put", 2, (5, 1, 0, 0))), book.plan(), book.costs(),
             book.depth, book.undo(), book.problem],
            [8, None, (5, 0, 5), (0, 4, 7, 8), 1, None, ((2, 3), (4, 4), (0, 0), (1, 1))])
        self.assert_raised(NothingToUndo, {}, book.undo)


if __name__ == "__main__":
    unittest.main()
