"""Point 1 over the whole program: names, arguments, kinds of values, and errors."""

import copy
import importlib
import inspect
import itertools
import unittest

from lotplans.books import Book
from lotplans.errors import (
    BadAmount, BadAmounts, BadArcs, BadBounds, BadEdit, BadExponents, BadGroup, BadItems, BadJoint, BadLates, BadLevels,
    BadLine, BadLinePlan, BadMix, BadParts, BadPeriod, BadPlan, BadPoint, BadProblem, BadRooms, BadRow, BadRule,
    BadStarts, BadStore, BadValues, InvalidText, LotError, NotFavored, NothingToUndo, NotPositive, NotSteady, NotText,
    TooMany,
)
from lotplans.horizons import joined
from lotplans.intervals import least_plans
from lotplans.mixtures import corners, mixture, shows_mixture
from tests.helpers import FINE_POINT, ODD_VALUES, Case

FAR = ((5, 1, 9), (4, 4, 4), (0, 0, 0), (2, 2, 2))
SMALL = ((2, 3, 4), (10, 10, 10), (0, 0, 0), (1, 1, 1))
ROUGH = ((1, 1), (1, 1), (0, 9), (1, 1))
SEVEN = ((1,) * 7, (2,) * 7, (0,) * 7, (1,) * 7)
TWELVE = ((1,) * 12,) * 4
STORE = (9, 2, 1, 7, (3, 0, 2, 1), 3)
LINE = ((2, 3), (((4, 4), (0, 0), (0, 0)), ((1, 1), (0, 0), (9, 9))))
ITEMS = ((8, 1), (1, 1), (18, 2))
BOUNDS = ((3, 2), (1, 1))
JOINT = ((6, 6), (((2, 3), (4, 4), (0, 0), (1, 1)),) * 2)

# More values of all kinds, nested, and some that are near what is asked for.
WILD_VALUES = ODD_VALUES + [
    [[]], ([],), ({},), ((((),),),), [None, True], {"a": {"b": []}}, ([1, 2, 3], [1, 2, 3]), ((1, 2, 3),) * 4,
    [(1, 2, 3)] * 4, ((1, 1), (1, 1)), (((1, 1),), ((1, 1),)), ((0, 1), ((0, 1),)), (((), ()), ()), ("set", {}, [], ()),
    ("drop", []), {(1, 2): (3, 4)}, ("demands", "setups"), 2, 3, 12, 50, 9999, 10000, -20, (2, 3, 4), (0, 1, 2), (1, 2),
    ((0,), True), ((0,), 1), (2, (0, 1)), (2, [0, 1]), ((1, 2), (3, 4)), "unit", "demands 1\nsetups 1", "\n\n\n\n",
    "demands \u00b2", "demands \u0661", (10 ** 40, 1), ((10 ** 40, 1),) * 3, -10 ** 40,
]


class Argument:
    """A value that is allowed, and others with the errors and fields that they raise."""

    def __init__(self, fine, *wrong):
        self.fine = fine
        self.wrong = wrong


NO_PROBLEM = [(None, BadProblem, {"part": None, "index": None}),
              (((2, 3), (1, 1000), (0, 0), (1, -1)), BadProblem, {"part": 1, "index": 1})]
PROBLEM = Argument(SMALL, *NO_PROBLEM)
POSITIVE = Argument(SMALL, *NO_PROBLEM, (((1, 0), (1, 1), (1, 1), (1, 1)), NotPositive, {"index": 1}),
                    (((0, 0), (1, 1), (1, 1), (1, None)), BadProblem, {"part": 3, "index": 1}))
STEADY = Argument(FAR, *NO_PROBLEM, (ROUGH, NotSteady, {"index": 0}))
FEW = Argument(SMALL, *NO_PROBLEM, (((0, 1), (1, 1), (1, 1), (1, 1)), NotPositive, {"index": 0}))
PLAN = Argument((5, 0, 4), (None, BadPlan, {"index": None}), ((1, 0, 8), BadPlan, {"index": 0}),
                ((9, 1, 0), BadPlan, {"index": 3}))
LATE_PLAN = Argument((0, 5, 4), ((2, 3), BadPlan, {"index": None}), ((1, 0, 7), BadPlan, {"index": 3}))
FIRST = Argument(0, (3, BadPeriod, {}), (True, BadPeriod, {}))
GOAL = Argument(2, (-1, BadPeriod, {}), (None, BadPeriod, {}))
STARTS = Argument((0, 2), ((1, 2), BadStarts, {}), ([0], BadStarts, {}))
PARTS = Argument(((2, 0, 0), (0, 3, 4)), ((), BadParts, {"index": None}), (((2, 0, 0), 5), BadParts, {"index": 1}),
                 (((2, 0, 0), (0, 3, 3)), BadParts, {"index": 2}))
GROUP = Argument((1,), ((2,), BadGroup, {}), (0, BadGroup, {}))
POINT = Argument(FINE_POINT, (None, BadPoint, {"index": None}),
                 ((FINE_POINT[1], FINE_POINT[0]), BadPoint, {"index": 3}),
                 ((FINE_POINT[1], FINE_POINT[1]), BadPoint, {"index": 6}))
ROW = Argument((1, (0, 1)), ((1, (0, 2)), BadRow, {}), (None, BadRow, {}))
RULE = Argument("meal", ("Meal", BadRule, {}), (None, BadRule, {}), ([], BadRule, {}))
LATES = Argument((4, 4, 4), ((4, 4), BadLates, {}), (None, BadLates, {}))
AMOUNT = Argument(5, (0, BadAmount, {}), (10000, BadAmount, {}), (True, BadAmount, {}))
ROOMS = Argument((3, 0, 0), ((3, 0), BadRooms, {}), (None, BadRooms, {}))
AGE = Argument(2, (0, BadPeriod, {}), (4, BadPeriod, {}), ("2", BadPeriod, {}))
DEMANDS = Argument((1, 2, 6), ((1, 2, 1000), BadRooms, {}), (None, BadRooms, {}))
ONE = Argument(((3, 1), (1, 1)), (((3, 1), (2, 2)), BadAmounts, {}), (None, BadAmounts, {}))
OTHER = Argument(((2, 1), (2, 1)), (((2, 1), (3, 1)), BadAmounts, {}), ([], BadAmounts, {}))
BOUND = Argument(BOUNDS, ((), BadBounds, {}), (((1000, 1),), BadBounds, {}))
MIX = Argument(((1, 4), ((3, 2), (1, 1))), (((1, 4), ((3, 2),)), BadMix, {}), (None, BadMix, {}))
PLACES = Argument(((0, 1), False), (((0, 1), 0), BadRow, {}), (((), True), BadRow, {}))
ITEM = Argument(ITEMS, ((), BadItems, {"index": None}), (((1, 1), (0, 1)), BadItems, {"index": 1}))
ARCS = Argument(((1, 0),), (((1, 1),), BadArcs, {}), (None, BadArcs, {}))
POWERS = Argument((1, 1, 2), ((1, 1), BadExponents, {}), ((1, 1, 21), BadExponents, {}))
STORES = Argument(STORE, (None, BadStore, {"index": None}), (STORE[:3] + (2,) + STORE[4:], BadStore, {"index": 3}))
STOCK = Argument(-3, (51, BadAmount, {}), (None, BadAmount, {}))
LEVELS = Argument(((0, 3),) * 3, (((0, 3),) * 2, BadLevels, {}), (None, BadLevels, {}))
PERIOD = Argument(1, (3, BadPeriod, {}), (None, BadPeriod, {}))
LEAST = Argument(-2, (-51, BadAmount, {}), ("1", BadAmount, {}))
MOST = Argument(9, (-3, BadAmount, {}), (51, BadAmount, {}))
VALUES = Argument((0, 5, 0), ((0, True), BadValues, {}), (None, BadValues, {}))
SETUP = Argument(2, (-1, BadAmount, {}), (None, BadAmount, {}))
LINES = Argument(LINE, (None, BadLine, {"index": None}), ((LINE[0], (LINE[1][0], 5)), BadLine, {"index": 1}))
FAVORED = Argument(LINE, (None, BadLine, {"index": None}), (((1, 1), (((1, 2), (0, 0), (0, 0)),)), NotFavored, {}))
LINE_PLAN = Argument(((5, 0), (2, 3)), (((2, 3), (5, 0)), BadLinePlan, {}), (None, BadLinePlan, {}))
SHARED = Argument(JOINT, (None, BadJoint, {"index": None}), ((JOINT[0], (JOINT[1][0], SMALL)), BadJoint, {"index": 1}))
SPLIT = Argument(((3, 3), (3, 3)), (None, BadJoint, {"index": None}), (((3, 3), (3, 2)), BadJoint, {"index": 2}))
TEXT = Argument("demands 1\nsetups 2\nunits 3\nholdings 4", (None, NotText, {}),
                ("", InvalidText, {"line": 1, "word": 1}))
ANY = Argument(None)

# Each function of the interface: its file, its name and arguments, the kinds of its value, and the arguments' values.
INTERFACE = [
    ("problems", "kept_cost(problem, start, goal)", (int,), [PROBLEM, FIRST, GOAL]),
    ("problems", "is_plan(problem, value)", (bool,), [PROBLEM, ANY]),
    ("problems", "is_interval(problem, plan)", (bool,), [PROBLEM, PLAN]),
    ("problems", "stocks(problem, plan)", (tuple,), [PROBLEM, PLAN]),
    ("problems", "starts(problem, plan)", (tuple,), [PROBLEM, PLAN]),
    ("problems", "cost(problem, plan)", (int,), [PROBLEM, PLAN]),
    ("problems", "plan_of(problem, periods)", (tuple,), [PROBLEM, STARTS]),
    ("problems", "improved(problem, plan)", (tuple,), [PROBLEM, PLAN]),
    ("texts", "write(problem)", (str,), [PROBLEM]),
    ("texts", "read(text)", (tuple,), [TEXT]),
    ("intervals", "least_cost(problem)", (int,), [PROBLEM]),
    ("intervals", "stage_costs(problem)", (tuple,), [PROBLEM]),
    ("intervals", "rest_costs(problem)", (tuple,), [PROBLEM]),
    ("intervals", "least_plans(problem)", (list,), [PROBLEM]),
    ("intervals", "least_plan(problem)", (tuple,), [PROBLEM]),
    ("envelope", "envelope_costs(problem)", (tuple,), [PROBLEM]),
    ("prices", "prices(problem)", (tuple,), [PROBLEM]),
    ("prices", "shows_prices(problem, value)", (bool,), [PROBLEM, ANY]),
    ("prices", "group_cost(problem, parts, group)", (int,), [PROBLEM, PARTS, GROUP]),
    ("prices", "shares(problem, parts)", (tuple,), [PROBLEM, PARTS]),
    ("prices", "shows_shares(problem, parts, value)", (bool,), [PROBLEM, PARTS, ANY]),
    ("points", "point_cost(problem, point)", (tuple,), [POSITIVE, POINT]),
    ("points", "row_gap(problem, point, row)", (tuple,), [POSITIVE, POINT, ROW]),
    ("points", "broken_row(problem, point)", (type(None), tuple), [POSITIVE, POINT]),
    ("points", "by_rows(problem)", (tuple,), [POSITIVE]),
    ("mixtures", "corners(problem)", (list,), [FEW]),
    ("mixtures", "mixture(problem, point)", (type(None), tuple), [FEW, POINT]),
    ("mixtures", "shows_mixture(problem, point, value)", (bool,), [FEW, POINT, ANY]),
    ("allocation", "allocation(problem, point)", (type(None), tuple), [POSITIVE, POINT]),
    ("allocation", "shows_allocation(problem, point, value)", (bool,), [POSITIVE, POINT, ANY]),
    ("horizons", "last_starts(problem)", (tuple,), [PROBLEM]),
    ("horizons", "is_steady(problem)", (bool,), [PROBLEM]),
    ("horizons", "firm(problem)", (tuple,), [STEADY]),
    ("horizons", "joined(one, other)", (tuple,), [PROBLEM, PROBLEM]),
    ("horizons", "by_stock_rows(problem)", (tuple,), [STEADY]),
    ("ranges", "setup_range(problem, plan, period)", (type(None), tuple), [PROBLEM, PLAN, PERIOD]),
    ("ranges", "worth(problem, period)", (type(None), int), [PROBLEM, PERIOD]),
    ("rules", "tradeoffs(problem)", (tuple,), [PROBLEM]),
    ("rules", "supported(problem)", (tuple,), [PROBLEM]),
    ("rules", "rule_plan(problem, rule)", (tuple,), [PROBLEM, RULE]),
    ("rules", "even_shares(problem, parts)", (tuple,), [PROBLEM, PARTS]),
    ("late", "late_cost(problem, lates, plan)", (int,), [PROBLEM, LATES, LATE_PLAN]),
    ("late", "late_stages(problem, lates)", (tuple,), [PROBLEM, LATES]),
    ("late", "late_prices(problem, lates)", (tuple,), [PROBLEM, LATES]),
    ("late", "late_plan(problem, lates)", (tuple,), [PROBLEM, LATES]),
    ("late", "shows_late_prices(problem, lates, value)", (bool,), [PROBLEM, LATES, ANY]),
    ("capped", "is_capped(problem, most, plan)", (bool,), [PROBLEM, AMOUNT, PLAN]),
    ("capped", "is_regular(problem, most, plan)", (bool,), [PROBLEM, AMOUNT, PLAN]),
    ("capped", "capped_cost(problem, most)", (type(None), int), [PROBLEM, AMOUNT]),
    ("capped", "first_short(problem, most)", (type(None), int), [PROBLEM, AMOUNT]),
    ("capped", "capped_plan(problem, most)", (type(None), tuple), [PROBLEM, AMOUNT]),
    ("rooms", "fits(problem, rooms, plan)", (bool,), [PROBLEM, ROOMS, PLAN]),
    ("rooms", "is_edged(problem, rooms, plan)", (bool,), [PROBLEM, ROOMS, PLAN]),
    ("rooms", "roomed_cost(problem, rooms)", (type(None), int), [PROBLEM, ROOMS]),
    ("rooms", "roomed_plan(problem, rooms)", (type(None), tuple), [PROBLEM, ROOMS]),
    ("trucks", "truck_cost(problem, load, plan)", (int,), [PROBLEM, AMOUNT, PLAN]),
    ("trucks", "least_truck_cost(problem, load)", (int,), [PROBLEM, AMOUNT]),
    ("trucks", "is_loaded(problem, load, plan)", (bool,), [PROBLEM, AMOUNT, PLAN]),
    ("trucks", "truck_plan(problem, load)", (tuple,), [PROBLEM, AMOUNT]),
    ("aged", "is_fresh(problem, age, plan)", (bool,), [PROBLEM, AGE, PLAN]),
    ("aged", "fresh_cost(problem, age)", (int,), [PROBLEM, AGE]),
    ("aged", "fresh_plan(problem, age)", (tuple,), [PROBLEM, AGE]),
    ("smoothing", "even(demands, rooms)", (tuple,), [DEMANDS, ROOMS]),
    ("smoothing", "fits_rooms(demands, rooms, amounts)", (bool,), [DEMANDS, ROOMS, ANY]),
    ("smoothing", "uneven_at(one, other)", (type(None), int), [ONE, OTHER]),
    ("smoothing", "transfers(one, other)", (type(None), tuple), [ONE, OTHER]),
    ("smoothing", "shows_transfers(one, other, value)", (bool,), [ONE, OTHER, ANY]),
    ("mixing", "mixing_gap(bounds, point, row)", (tuple,), [BOUND, MIX, PLACES]),
    ("mixing", "broken_mix(bounds, point)", (type(None), tuple), [BOUND, MIX]),
    ("mixing", "mix_corners(bounds)", (list,), [BOUND]),
    ("mixing", "mix(bounds, point)", (type(None), tuple), [BOUND, MIX]),
    ("mixing", "shows_mix(bounds, point, value)", (bool,), [BOUND, MIX, ANY]),
    ("families", "clusters(items, arcs)", (tuple,), [ITEM, ARCS]),
    ("families", "shows_clusters(items, arcs, value)", (bool,), [ITEM, ARCS, ANY]),
    ("families", "keeps_order(items, arcs, exponents)", (bool,), [ITEM, ARCS, POWERS]),
    ("families", "exponents(items, arcs)", (tuple,), [ITEM, ARCS]),
    ("families", "power_cost(items, exponents)", (tuple,), [ITEM, POWERS]),
    ("families", "cluster_bound(items, arcs)", (tuple,), [ITEM, ARCS]),
    ("reorder", "least_store_cost(store, stock)", (tuple,), [STORES, STOCK]),
    ("reorder", "levels(store)", (tuple,), [STORES]),
    ("reorder", "levels_cost(store, levels, stock)", (tuple,), [STORES, LEVELS, STOCK]),
    ("reorder", "table_of(store, period, least, most)", (tuple,), [STORES, PERIOD, LEAST, MOST]),
    ("reorder", "bend(values, setup)", (type(None), tuple), [VALUES, SETUP]),
    ("lines", "line_plan_cost(line, plan)", (int,), [LINES, LINE_PLAN]),
    ("lines", "line_cost(line)", (int,), [LINES]),
    ("lines", "line_plan(line)", (tuple,), [LINES]),
    ("lines", "is_nested(line, plan)", (bool,), [LINES, LINE_PLAN]),
    ("lines", "favors_nested(line)", (bool,), [LINES]),
    ("lines", "nested_plan(line)", (tuple,), [FAVORED]),
    ("joint", "joint_cost(joint)", (int,), [SHARED]),
    ("joint", "joint_bound(joint, split)", (int,), [SHARED, SPLIT]),
    ("joint", "joint_plans(joint)", (tuple,), [SHARED]),
]


def functions():
    """Each function of the interface with its name, the kinds of its value and its arguments."""
    for file, words, kinds, arguments in INTERFACE:
        name = words[:words.index("(")]
        yield getattr(importlib.import_module("lotplans." + file), name), name, kinds, arguments


def fine_values(arguments):
    return [argument.fine for argument in arguments]


def parts_of(value):
    """A value and all that is in it."""
    if type(value) in (tuple, list):
        return [value] + [part for thing in value for part in parts_of(thing)]
    return [value]


def exact(value):
    """A text that tells True from 1, and lists from tuples."""
    return repr(value)


class Names(Case):
    def test_names_and_arguments(self):
        for file, words, _, arguments in INTERFACE:
            module = importlib.import_module("lotplans." + file)
            name = words[:words.index("(")]
            call = getattr(module, name)
            self.assertEqual(call.__module__, "lotplans." + file)
            self.assertEqual(name + str(inspect.signature(call)), words)
            self.assertEqual(len(inspect.signature(call).parameters), len(arguments))

    def test_arguments_by_their_names(self):
        for call, _, _, arguments in functions():
            values = fine_values(arguments)
            names = list(inspect.signature(call).parameters)
            self.assertEqual(call(**dict(zip(names, values))), call(*values))

    def test_the_book(self):
        self.assertEqual(Book.__module__, "lotplans.books")
        self.assertEqual(str(inspect.signature(Book)), "(problem)")
        for name, words in (("edit", "(self, value)"), ("undo", "(self)"), ("trial", "(self, value)"),
                            ("plan", "(self)"), ("costs", "(self)")):
            self.assertEqual(str(inspect.signature(vars(Book)[name])), words)
        for name in ("problem", "depth"):
            self.assertIsInstance(vars(Book)[name], property)
        book = Book(SMALL)
        self.assertEqual([type(x) for x in (book.problem, book.depth, book.plan(), book.costs())],
                         [tuple, int, tuple, tuple])
        self.assertEqual([book.edit(value=("drop", 0)), book.trial(value=("drop", 0)), book.undo()], [None, 10, None])

    def test_kinds_of_values(self):
        for call, name, kinds, arguments in functions():
            found = call(*fine_values(arguments))
            self.assertIn(type(found), kinds, name)
            # below that, only what the document calls values
            for part in parts_of(found):
                self.assertIn(type(part), (int, str, bool, type(None), tuple, list), name)
                self.assertEqual(type(part) is list, type(found) is list and part is found, name)


class Errors(Case):
    def test_each_wrong_value_of_each_argument(self):
        for call, _, _, arguments in functions():
            for place, argument in enumerate(arguments):
                for wrong, error, fields in argument.wrong:
                    values = fine_values(arguments)
                    values[place] = wrong
                    self.assert_raised(error, fields, call, *values)

    def test_the_error_of_the_leftmost_argument_is_raised(self):
        for call, _, _, arguments in functions():
            choices = [[None] + list(argument.wrong) for argument in arguments]
            for chosen in itertools.product(*choices):
                wrong = [one for one in chosen if one is not None]
                if wrong:
                    values = [argument.fine if one is None else one[0] for argument, one in zip(arguments, chosen)]
                    self.assert_raised(wrong[0][1], wrong[0][2], call, *values)

    def test_too_many_comes_last(self):
        point = (((7, 1),) + ((0, 1),) * 6, ((1, 1),) + ((0, 1),) * 6)
        self.assert_raised(TooMany, {"most": 6}, corners, SEVEN)
        self.assert_raised(NotPositive, {"index": 6}, corners, ((1,) * 6 + (0,),) + SEVEN[1:])
        for call, rest in ((mixture, ()), (shows_mixture, (None,))):
            self.assert_raised(TooMany, {"most": 6}, call, SEVEN, point, *rest)
            self.assert_raised(BadPoint, {"index": None}, call, SEVEN, None, *rest)
            self.assert_raised(BadPoint, {"index": 14}, call, SEVEN, (point[0], ((0, 1),) + point[1][1:]), *rest)
        self.assert_raised(TooMany, {"most": 12}, joined, TWELVE, SMALL)
        self.assert_raised(BadProblem, {"part": None, "index": None}, joined, TWELVE, None)
        free = ((1,) * 12, (0,) * 12, (0,) * 12, (0,) * 12)
        self.assert_raised(TooMany, {"most": 500}, least_plans, free)
        self.assert_raised(BadProblem, {"part": 3, "index": 11}, least_plans, free[:3] + ((0,) * 11 + (-1,),))

    def test_values_of_all_kinds(self):
        """No value is answered by an error that is not one of the package."""
        for call, name, kinds, arguments in functions():
            for place in range(len(arguments)):
                for value in WILD_VALUES:
                    values = fine_values(arguments)
                    values[place] = value
                    try:
                        found = call(*values)
                    except LotError:
                        self.assertIsNot(arguments[place], ANY, (name, value))
                    else:
                        self.assertIn(type(found), kinds, (name, value))

    def test_wild_values_of_all_arguments_at_once(self):
        for call, _, _, arguments in functions():
            if arguments[0] is not ANY:
                for value in WILD_VALUES:
                    for first in [value] + [argument.fine for argument in arguments[:1]]:
                        try:
                            call(first, *[value] * (len(arguments) - 1))
                        except LotError:
                            pass

    def test_books(self):
        for value in WILD_VALUES:
            if value != ((1, 2, 3),) * 4:
                self.assert_raised(BadProblem, {}, Book, value)
            book = Book(SMALL)
            self.assert_raised(BadEdit, {}, book.edit, value)
            self.assert_raised(BadEdit, {}, book.trial, value)
            self.assert_raised(NothingToUndo, {}, book.undo)


class Answers(Case):
    def test_equal_arguments_have_equal_answers(self):
        for call, name, _, arguments in functions():
            values = fine_values(arguments)
            one, other = call(*values), call(*copy.deepcopy(values))
            self.assertEqual(exact(one), exact(other), name)

    def test_arguments_are_not_modified(self):
        for call, name, _, arguments in functions():
            for place in range(len(arguments)):
                for value in WILD_VALUES + [argument.fine for argument in arguments]:
                    values = copy.deepcopy(fine_values(arguments))
                    values[place] = copy.deepcopy(value)
                    before = exact(values)
                    try:
                        call(*values)
                    except LotError:
                        pass
                    self.assertEqual(exact(values), before, name)

    def test_edits_and_problems_of_books_are_not_modified(self):
        for value in WILD_VALUES + [("set", "demands", 0, 1), ("put", 0, (1, 1, 1, 1)), ("drop", 0)]:
            problem, passed = copy.deepcopy(SMALL), copy.deepcopy(value)
            book = Book(problem)
            for call in (book.trial, book.edit):
                try:
                    call(passed)
                except LotError:
                    pass
            self.assertEqual((exact(problem), exact(passed)), (exact(SMALL), exact(value)))

    def test_returned_lists_are_new(self):
        for call, name, kinds, arguments in functions():
            if kinds == (list,):
                first = call(*fine_values(arguments))
                kept = list(first)
                self.assertGreater(len(kept), 0)
                first.clear()
                first.append("else")
                second = call(*fine_values(arguments))
                self.assertIsNot(first, second)
                self.assertEqual(second, kept, name)


if __name__ == "__main__":
    unittest.main()
