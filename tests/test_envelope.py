"""Point 5: least costs found by lines."""

import itertools
import unittest

from lotplans.envelope import envelope_costs
from lotplans.intervals import rest_costs
from tests.helpers import EDGES, NOTHING, ONE, SMALL, Case, least_of, part_of, random_problems


class Envelope(Case):
    def test_examples(self):
        self.assertEqual(envelope_costs(SMALL), (21, 14, 10, 0))
        self.assertEqual(envelope_costs(ONE), (11, 0))
        self.assertEqual(envelope_costs(NOTHING), (0, 0, 0, 0))

    def test_is_rest_costs_for_all_lengths(self):
        for many in range(1, 13):
            for problem in random_problems(100 + many, 150, many, many):
                self.assertEqual(envelope_costs(problem), rest_costs(problem), problem)
        for problem in EDGES:
            self.assertEqual(envelope_costs(problem), rest_costs(problem), problem)

    def test_all_problems_of_small_entries(self):
        for demands in itertools.product((0, 1, 2), repeat=3):
            for costs in itertools.product((0, 3), (0, 2), (1,), (0, 2), (1,), (0, 4), (0, 1), (1,), (0,)):
                problem = (demands, costs[:3], costs[3:6], costs[6:])
                self.assertEqual(envelope_costs(problem), rest_costs(problem), problem)

    def test_against_all_sets_of_starts(self):
        for problem in random_problems(31, 60, 6):
            many = len(problem[0])
            told = [least_of(part_of(problem, k, many)) if k < many else 0 for k in range(many + 1)]
            self.assertEqual(envelope_costs(problem), tuple(told))

    def test_wrong_problems(self):
        self.assert_problem_checked(envelope_costs)


if __name__ == "__main__":
    unittest.main()
