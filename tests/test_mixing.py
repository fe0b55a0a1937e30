"""Points 24 and 25: whole lots, their rows and corners."""

import itertools
import math
import random
import unittest
from fractions import Fraction

from lotplans.errors import BadBounds, BadMix, BadRow
from lotplans.mixing import broken_mix, mix, mix_corners, mixing_gap, shows_mix
from tests.helpers import ODD_VALUES, Case, read_ratio, told
from tests.lp import least_value

HALVES = ((3, 2),)
HALF_POINT = ((0, 1), ((3, 2),))

EDGE_BOUNDS = [
    HALVES, ((0, 1),), ((999, 1),), ((1, 2),), ((1, 999),), ((1, 1), (1, 1)), ((1, 2), (1, 2)), ((3, 2), (1, 2)),
    ((0, 1), (1, 3), (2, 3)), ((1998, 2 * 999 + 1), (998999, 1000)), ((5, 2), (7, 3), (2, 1), (1, 6), (9, 2)),
    ((1, 5), (2, 5), (3, 5), (4, 5), (1, 1)), ((4, 1), (7, 2), (4, 1), (7, 2), (10, 3)), ((0, 1),) * 5,
]


def part(bound):
    """The bound less the greatest integer below it."""
    value = read_ratio(bound)
    return value - (math.ceil(value) - 1)


def gap(bounds, point, row):
    """mixing_gap by the words of point 24, as a fraction."""
    rest, numbers = read_ratio(point[0]), [read_ratio(x) for x in point[1]]
    order = sorted(row[0], key=lambda place: (part(bounds[place]), place))
    asked, last = Fraction(0), Fraction(0)
    for place in order:
        asked += (part(bounds[place]) - last) * (math.ceil(read_ratio(bounds[place])) - numbers[place])
        last = part(bounds[place])
    if row[1]:
        asked += (1 - last) * (math.ceil(read_ratio(bounds[order[0]])) - 1 - numbers[order[0]])
    return rest - asked


def all_rows(many):
    return sorted((places, goes_round) for size in range(1, many + 1)
                  for places in itertools.combinations(range(many), size) for goes_round in (False, True))


def all_corners(bounds):
    """mix_corners by the words of point 25."""
    rests = {Fraction(0)} | {part(bound) for bound in bounds if part(bound) < 1}
    found = []
    for rest in rests:
        numbers = []
        for bound in bounds:
            number = math.ceil(read_ratio(bound)) + 2
            while rest + number - 1 >= read_ratio(bound):
                number -= 1
            numbers.append(number)
        found.append((told(rest), tuple(numbers)))
    return sorted(found)


def is_mix(bounds, point, value):
    """Point 25 by its words, for values of the right form."""
    pieces, ups, shift = value
    if any((rest, numbers) not in all_corners(bounds) or weight[0] <= 0 for weight, rest, numbers in pieces):
        return False
    if sum(read_ratio(piece[0]) for piece in pieces) != 1 or min(x[0] for x in ups) < 0 or shift[0] < 0:
        return False
    rest = sum(read_ratio(weight) * read_ratio(level) for weight, level, _ in pieces) + read_ratio(shift)
    if rest != read_ratio(point[0]):
        return False
    for place, number in enumerate(point[1]):
        whole = sum(read_ratio(weight) * numbers[place] for weight, _, numbers in pieces)
        if whole + read_ratio(ups[place]) - read_ratio(shift) != read_ratio(number):
            return False
    return True


def has_mix(bounds, point):
    """Whether some weights, ups and a shift lead to a mix, by a linear program."""
    corners = all_corners(bounds)
    many = len(bounds)
    rows = [([1] * len(corners) + [0] * (many + 1), 1)]
    rows.append(([read_ratio(rest) for rest, _ in corners] + [0] * many + [1], read_ratio(point[0])))
    for place in range(many):
        ups = [int(k == place) for k in range(many)]
        rows.append(([numbers[place] for _, numbers in corners] + ups + [-1], read_ratio(point[1][place])))
    return least_value([0] * (len(corners) + many + 1), [], rows) is not None


def random_bounds(source, most=5):
    bottom = source.choice([1, 2, 2, 3, 4, 6, 12])
    greatest = source.choice([1, 3, 8, 999])
    return tuple(told(Fraction(source.randint(0, greatest * bottom), bottom)) for _ in range(source.randint(1, most)))


def random_point(bounds, source):
    """A mix near what whole ones are: mixed corners with ups and a shift, some of it changed a little."""
    corners = all_corners(bounds)
    chosen = [source.choice(corners) for _ in range(source.randint(1, 3))]
    weights = [source.randint(1, 4) for _ in chosen]
    shift = source.choice([Fraction(0), Fraction(0), Fraction(source.randint(0, 9), 4)])
    rest = sum(weight * read_ratio(corner[0]) for weight, corner in zip(weights, chosen)) / sum(weights) + shift
    numbers = []
    for place in range(len(bounds)):
        whole = Fraction(sum(weight * corner[1][place] for weight, corner in zip(weights, chosen)), sum(weights))
        numbers.append(whole - shift + source.choice([Fraction(0), Fraction(0), Fraction(source.randint(0, 6), 3)]))
    if source.random() < 0.5:
        small = Fraction(1, source.choice([2, 5, 100, 10 ** 9]))
        if source.random() < 0.3:
            rest = max(Fraction(0), rest - small)
        else:
            numbers[source.randrange(len(numbers))] -= small
    return (told(rest), tuple(told(number) for number in numbers))


def random_cases(seed, times, most=5):
    source = random.Random(seed)
    found = []
    for _ in range(times):
        bounds = random_bounds(source, most)
        found.append((bounds, random_point(bounds, source)))
    for bounds in EDGE_BOUNDS:
        found.extend((bounds, random_point(bounds, source)) for _ in range(5))
    return found


RATIO_LIKE = [-1, 0, 2, True, None, "1", (), (1,), (1, 2, 3), [1, 2], {}, (2, 4), (0, 2), (1, 0), (0, 0), (1, -2),
              (True, 1), (1, True), (0, True), (None, 1), ("1", 1), ((1, 1), 1), "11"]


def bad_bounds():
    found = list(ODD_VALUES) + [((1, 1),) * 6, [(1, 1)], ((1, 1), [1, 1]), {(1, 1): 1}, (1, 1)]
    for index in range(3):
        for thing in RATIO_LIKE + [(-1, 2), (-1, 1), (1000, 1), (999001, 1000), (10 ** 30, 1)]:
            row = [(3, 2), (1, 1), (0, 1)]
            row[index] = thing
            found.append(tuple(row))
    return found


def bad_mixes():
    """Values that are not mixes of three bounds."""
    fine = ((1, 2), ((1, 1), (-3, 2), (0, 1)))
    found = list(ODD_VALUES) + [list(fine), fine[:1], fine + ((0, 1),), (fine[0], list(fine[1])), fine[::-1],
                                (fine[0], fine[1][:2]), (fine[0], fine[1] + ((0, 1),)), (fine[0], ()), (fine[0], None),
                                ((-1, 2), fine[1]), ((-1, 10 ** 30), fine[1]), (fine[0], (1, -2, 0))]
    for thing in RATIO_LIKE:
        found.append((thing, fine[1]))
        for index in range(3):
            row = list(fine[1])
            row[index] = thing
            found.append((fine[0], tuple(row)))
    return found


def bad_rows():
    """Values that are not rows of three bounds."""
    found = list(ODD_VALUES)
    for places in ((), (1, 0), (0, 0), (3,), (-1,), (0, 3), [0], (True,), (0, True), ("0",), (None,), 0, None, {0: 1},
                   "0", ((0,),), (0, 1, 2, 2)):
        found += [(places, False), (places, True)]
    for goes_round in (0, 1, None, "", "True", (), [], {}, (True,)):
        found.append(((0,), goes_round))
    return found + [((0,),), ((0,), True, True), [(0,), True], (True, (0,))]


THREE = ((3, 2), (1, 3), (2, 1))
FINE = ((1, 2), ((1, 1), (-3, 2), (0, 1)))


class Rows(Case):
    def test_examples(self):
        self.assertEqual(broken_mix(HALVES, HALF_POINT), ((0,), False))
        self.assertEqual(mixing_gap(HALVES, HALF_POINT, ((0,), False)), (-1, 4))

    def test_gap_by_its_words(self):
        for bounds, point in random_cases(401, 150):
            for row in all_rows(len(bounds)):
                found = mixing_gap(bounds, point, row)
                self.assertEqual(found, told(gap(bounds, point, row)), (bounds, point, row))
                self.assertEqual([type(x) for x in (found,) + found], [tuple, int, int])

    def test_gap_worked_out_by_hand(self):
        # parts 1/2, 1/3, 1; ceilings 2, 1, 2; from the rest 1/2 goes (1/3)(1 + 3/2) + (1/6)(2 - 1) + (1/2)(2 - 0)
        self.assertEqual(mixing_gap(THREE, FINE, ((0, 1, 2), False)), (-3, 2))
        # the last part is 1, so that nothing goes round
        self.assertEqual(mixing_gap(THREE, FINE, ((0, 1, 2), True)), (-3, 2))
        # (1/3)(5/2) + (1/6) and, round, (1/2)(1 - 1 + 3/2)
        self.assertEqual(mixing_gap(THREE, FINE, ((0, 1), False)), (-1, 2))
        self.assertEqual(mixing_gap(THREE, FINE, ((0, 1), True)), (-5, 4))

    def test_bounds_that_are_whole(self):
        # the part is 1 and not 0: all of what lacks is asked for
        for bound in (0, 1, 999):
            for number in (bound - 2, bound, bound + 1):
                for goes_round in (False, True):
                    found = mixing_gap(((bound, 1),), ((0, 1), ((number, 1),)), ((0,), goes_round))
                    self.assertEqual(found, (number - bound, 1))

    def test_equal_parts_go_by_place(self):
        bounds = ((3, 2), (1, 2), (5, 2))
        for numbers in itertools.permutations((-1, 0, 3)):
            point = ((0, 1), tuple((number, 1) for number in numbers))
            for places in ((0, 1), (0, 2), (1, 2), (0, 1, 2)):
                first = places[0]
                ceiling = (2, 1, 3)[first]
                self.assertEqual(mixing_gap(bounds, point, (places, False)),
                                 told(Fraction(-1, 2) * (ceiling - numbers[first])))
                self.assertEqual(mixing_gap(bounds, point, (places, True)),
                                 told(Fraction(-1, 2) * (2 * ceiling - 1 - 2 * numbers[first])))

    def test_whole_mixes_break_no_row(self):
        source = random.Random(41)
        for bounds in EDGE_BOUNDS + [random_bounds(source, 3) for _ in range(40)]:
            for _ in range(20):
                rest = Fraction(source.randint(0, 30), source.randint(1, 12))
                numbers = [math.ceil(read_ratio(bound) - rest) + source.choice([0, 0, 1, 5]) for bound in bounds]
                point = (told(rest), tuple((number, 1) for number in numbers))
                for row in all_rows(len(bounds)):
                    self.assertGreaterEqual(gap(bounds, point, row), 0)
                self.assertIsNone(broken_mix(bounds, point))

    def test_broken_mix_is_the_least_row(self):
        seen = {}
        for bounds, point in random_cases(402, 500):
            rows = [row for row in all_rows(len(bounds)) if gap(bounds, point, row) < 0]
            found = broken_mix(bounds, point)
            self.assertEqual(found, min(rows, default=None), (bounds, point))
            if found is not None:
                self.assertEqual((type(found[0]), type(found[1])), (tuple, bool))
            seen[found is not None and (len(found[0]), found[1])] = True
        self.assertLess({False, (1, False), (1, True), (2, False), (2, True)}, set(seen))

    def test_a_row_that_goes_round_is_behind_the_one_that_does_not(self):
        # both rows of the place are broken
        self.assertEqual(broken_mix(HALVES, ((0, 1), ((0, 1),))), ((0,), False))
        # only the one that goes round is: all that lacks, less than a whole one, is not in the rest
        self.assertEqual(broken_mix(((1, 2),), ((1, 2), ((-1, 1),))), ((0,), False))
        self.assertEqual(broken_mix(((1, 2),), ((1, 1), ((-1, 1),))), ((0,), True))
        self.assertIsNone(broken_mix(((1, 2),), ((3, 2), ((-1, 1),))))

    def test_wrong_values(self):
        for value in bad_bounds():
            for point, row in ((FINE, ((0,), True)), (None, None), ([], "x")):
                self.assert_raised(BadBounds, {}, mixing_gap, value, point, row)
                self.assert_raised(BadBounds, {}, broken_mix, value, point)
        for value in bad_mixes():
            for row in (((0,), True), None):
                self.assert_raised(BadMix, {}, mixing_gap, THREE, value, row)
            self.assert_raised(BadMix, {}, broken_mix, THREE, value)
        for row in bad_rows():
            self.assert_raised(BadRow, {}, mixing_gap, THREE, FINE, row)

    def test_bounds_at_their_edges(self):
        for bounds in (((0, 1),), ((999, 1),), ((998999, 1000),), ((1, 10 ** 30),), ((1, 1),) * 5):
            self.assertEqual(mixing_gap(bounds, ((0, 1), ((999, 1),) * len(bounds)), ((0,), False))[0] >= 0, True)


class Corners(Case):
    def test_examples(self):
        self.assertEqual(mix_corners(HALVES), [((0, 1), (2,)), ((1, 2), (1,))])

    def test_whole_lists(self):
        self.assertEqual(mix_corners(((2, 1), (0, 1))), [((0, 1), (2, 0))])
        self.assertEqual(mix_corners(((0, 1), (1, 3), (2, 3))),
                         [((0, 1), (0, 1, 1)), ((1, 3), (0, 0, 1)), ((2, 3), (0, 0, 0))])
        # ascending as tuples: 1/2 is ahead of 1/3, since (1, 2) is less than (1, 3)
        self.assertEqual(mix_corners(((1, 3), (5, 2))), [((0, 1), (1, 3)), ((1, 2), (0, 2)), ((1, 3), (0, 3))])
        self.assertEqual(mix_corners(((1, 2), (3, 2))), [((0, 1), (1, 2)), ((1, 2), (0, 1))])

    def test_by_their_words(self):
        source = random.Random(42)
        for bounds in EDGE_BOUNDS + [random_bounds(source) for _ in range(200)]:
            found = mix_corners(bounds)
            self.assertIs(type(found), list)
            self.assertEqual(found, all_corners(bounds), bounds)
            self.assertEqual(found, sorted(found))
            for rest, numbers in found:
                self.assertEqual({type(x) for x in rest + numbers}, {int})

    def test_returned_lists_are_new(self):
        mix_corners(HALVES).clear()
        self.assertEqual(len(mix_corners(HALVES)), 2)

    def test_wrong_values(self):
        for value in bad_bounds():
            self.assert_raised(BadBounds, {}, mix_corners, value)


class Mix(Case):
    def assert_mixed(self, bounds, point):
        found = mix(bounds, point)
        if any(gap(bounds, point, row) < 0 for row in all_rows(len(bounds))):
            self.assertIsNone(found, (bounds, point))
            return False
        self.assertIsNotNone(found, (bounds, point))
        self.assertEqual([type(x) for x in (found,) + found], [tuple] * 4)
        for weight, rest, numbers in found[0]:
            self.assertEqual([weight, rest], [told(read_ratio(weight)), told(read_ratio(rest))])
            self.assertEqual({type(x) for x in weight + rest + numbers}, {int})
        self.assertEqual(found[1:], (tuple(told(read_ratio(x)) for x in found[1]), told(read_ratio(found[2]))))
        self.assertTrue(is_mix(bounds, point, found), (bounds, point, found))
        self.assertIs(shows_mix(bounds, point, found), True)
        return True

    def test_summed_up_and_none_just_where_a_row_is_broken(self):
        answers = [self.assert_mixed(bounds, point) for bounds, point in random_cases(403, 1500)]
        self.assertGreater(min(answers.count(True), answers.count(False)), 300)

    def test_all_points_of_a_grid(self):
        for bounds in (HALVES, ((1, 1),), ((1, 2), (2, 3)), ((1, 3), (1, 1))):
            values = [told(Fraction(k, 6)) for k in range(-3, 11, 2 if len(bounds) > 1 else 1)]
            for rest in [told(Fraction(k, 6)) for k in range(0, 13)]:
                for numbers in itertools.product(values, repeat=len(bounds)):
                    self.assert_mixed(bounds, (rest, numbers))

    def test_against_a_linear_program(self):
        for bounds, point in random_cases(404, 60, 4):
            self.assertEqual(mix(bounds, point) is not None, has_mix(bounds, point), (bounds, point))

    def test_a_rest_that_is_great(self):
        for bounds in EDGE_BOUNDS:
            for rest in (1, 999, 10 ** 20):
                numbers = tuple(told(Fraction(math.ceil(read_ratio(bound)) - rest)) for bound in bounds)
                self.assertTrue(self.assert_mixed(bounds, ((rest, 1), numbers)))
                less = tuple(told(read_ratio(bound) - rest - Fraction(1, 10 ** 9)) for bound in bounds)
                self.assertFalse(self.assert_mixed(bounds, ((rest, 1), less)))

    def test_just_not_whole(self):
        # between the corners (0, 2) and (1/2, 1) the line rest = (2 - number) / 2
        for number in (Fraction(1), Fraction(5, 4), Fraction(3, 2), Fraction(2)):
            rest = (2 - number) / 2
            self.assertTrue(self.assert_mixed(HALVES, (told(rest), (told(number),))))
            small = Fraction(1, 10 ** 12)
            self.assertFalse(self.assert_mixed(HALVES, (told(rest), (told(number - small),))))
            if rest > 0:
                self.assertFalse(self.assert_mixed(HALVES, (told(rest - small), (told(number),))))

    def test_shows_right_ones(self):
        point = ((1, 4), ((3, 2),))
        for value in (((((1, 2), (0, 1), (2,)), ((1, 2), (1, 2), (1,))), ((0, 1),), (0, 1)),
                      # corners may come in any order, and more than once
                      ((((1, 2), (1, 2), (1,)), ((1, 2), (0, 1), (2,))), ((0, 1),), (0, 1)),
                      ((((1, 4), (0, 1), (2,)), ((1, 2), (1, 2), (1,)), ((1, 4), (0, 1), (2,))), ((0, 1),), (0, 1))):
            self.assertTrue(is_mix(HALVES, point, value))
            self.assertIs(shows_mix(HALVES, point, value), True)
        point = ((3, 4), ((2, 1),))
        for value in (((((1, 1), (1, 2), (1,)),), ((5, 4),), (1, 4)), ((((1, 1), (0, 1), (2,)),), ((3, 4),), (3, 4))):
            self.assertTrue(is_mix(HALVES, point, value))
            self.assertIs(shows_mix(HALVES, point, value), True)

    def test_shows_changed_ones(self):
        source = random.Random(43)
        seen = {True: 0, False: 0}
        for bounds, point in random_cases(405, 600):
            found = mix(bounds, point)
            if found is None:
                continue
            pieces, ups, shift = [list(piece) for piece in found[0]], list(found[1]), found[2]
            change, small = source.randrange(7), Fraction(1, source.choice([3, 10 ** 9]))
            place = source.randrange(len(pieces))
            if change == 0:
                pieces[place][0] = told(read_ratio(pieces[place][0]) + source.choice([small, -small]))
            elif change == 1:
                other = source.choice(all_corners(bounds))
                pieces[place][1:] = other
            elif change == 2:
                ups[source.randrange(len(ups))] = told(small)
            elif change == 3:
                shift = told(read_ratio(shift) + small)
                ups = [told(read_ratio(up) + small) for up in ups]
            elif change == 4:
                pieces[place][0] = told(read_ratio(pieces[place][0]) / 2)
                pieces.append(list(pieces[place]))
            elif change == 5:
                numbers = list(pieces[place][2])
                numbers[0] += 1
                pieces[place][2] = tuple(numbers)
            else:
                point = (told(read_ratio(point[0]) + small), point[1])
            value = (tuple(tuple(piece) for piece in pieces), tuple(ups), shift)
            answer = shows_mix(bounds, point, value)
            self.assertIs(answer, is_mix(bounds, point, value), (bounds, point, value))
            seen[answer] += 1
        self.assertGreater(min(seen.values()), 30)

    def test_ups_and_shifts_below_0(self):
        # they lead to the mix, but are below 0
        self.assertIs(shows_mix(HALVES, ((0, 1), ((1, 1),)), ((((1, 1), (0, 1), (2,)),), ((-1, 1),), (0, 1))), False)
        self.assertIs(shows_mix(HALVES, ((1, 4), ((5, 4),)), ((((1, 1), (1, 2), (1,)),), ((0, 1),), (-1, 4))), False)
        self.assertIs(shows_mix(HALVES, ((0, 1), ((2, 1),)), ((((1, 1), (0, 1), (2,)),), ((0, 1),), (0, 1))), True)
        weights = ((((2, 1), (0, 1), (2,)), ((-1, 1), (0, 1), (2,))), ((0, 1),), (0, 1))
        self.assertIs(shows_mix(HALVES, ((0, 1), ((2, 1),)), weights), False)
        weights = ((((1, 1), (0, 1), (2,)), ((0, 1), (1, 2), (1,))), ((0, 1),), (0, 1))
        self.assertIs(shows_mix(HALVES, ((0, 1), ((2, 1),)), weights), False)

    def test_corners_that_are_none(self):
        # whole with its rest, but not the least numbers, or another rest
        for rest, numbers in (((0, 1), (3,)), ((1, 2), (2,)), ((1, 4), (2,)), ((1, 1), (1,)), ((3, 2), (0,))):
            point = (rest, ((numbers[0], 1),))
            self.assertIs(shows_mix(HALVES, point, ((((1, 1), rest, numbers),), ((0, 1),), (0, 1))), False)
        # a whole bound has no corner with a rest of 1
        self.assertIs(shows_mix(((1, 1),), ((1, 1), ((0, 1),)), ((((1, 1), (1, 1), (0,)),), ((0, 1),), (0, 1))), False)
        self.assertIs(shows_mix(((1, 1),), ((1, 1), ((0, 1),)), ((((1, 1), (0, 1), (1,)),), ((0, 1),), (1, 1))), True)

    def test_shows_values_of_all_kinds(self):
        bounds, point = ((3, 2), (1, 1)), ((0, 1), ((2, 1), (1, 1)))
        fine = ((((1, 1), (0, 1), (2, 1)),), ((0, 1), (0, 1)), (0, 1))
        self.assertIs(shows_mix(bounds, point, fine), True)
        wrong = list(ODD_VALUES) + [list(fine), fine[:2], fine + ((),), ((),) + fine[1:], (None,) + fine[1:],
                                    (list(fine[0]),) + fine[1:], ({},) + fine[1:], (fine[0], list(fine[1]), (0, 1)),
                                    (fine[0], (), (0, 1)), (fine[0], ((0, 1),), (0, 1)), (fine[0], None, (0, 1)),
                                    (fine[0], ((0, 1),) * 3, (0, 1)), ("abc",) + fine[1:]]
        for thing in RATIO_LIKE + [(-1, 1), (0, True), (False, 1)]:
            wrong.append((fine[0], fine[1], thing))
            wrong.append((fine[0], (fine[1][0], thing), fine[2]))
            wrong.append((fine[0], (thing, fine[1][1]), fine[2]))
            wrong.append((((thing,) + fine[0][0][1:],),) + fine[1:])
            wrong.append(((((1, 1), thing, (2, 1)),),) + fine[1:])
        for thing in RATIO_LIKE + [(2, True), (True, 1), (2,), (2, 1, 0), [2, 1], (2, None), ("2", 1),
                                   ((2, 1), (1, 1))]:
            wrong.append(((((1, 1), (0, 1), thing),),) + fine[1:])
        for thing in ODD_VALUES + [list(fine[0][0]), fine[0][0][:2], fine[0][0] + (0,)]:
            wrong.append(((thing,),) + fine[1:])
        for value in wrong:
            self.assertIs(shows_mix(bounds, point, value), False, value)

    def test_shows_none_where_there_is_none(self):
        for value in (None, (), ((), ((0, 1),), (0, 1)), ((((1, 1), (0, 1), (2,)),), ((0, 1),), (0, 1))):
            self.assertIs(shows_mix(HALVES, HALF_POINT, value), False)

    def test_wrong_values(self):
        for value in bad_bounds():
            for point in (FINE, None):
                self.assert_raised(BadBounds, {}, mix, value, point)
                self.assert_raised(BadBounds, {}, shows_mix, value, point, None)
        for value in bad_mixes():
            self.assert_raised(BadMix, {}, mix, THREE, value)
            for last in (None, ((), (), (0, 1))):
                self.assert_raised(BadMix, {}, shows_mix, THREE, value, last)


if __name__ == "__main__":
    unittest.main()
