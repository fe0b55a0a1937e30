"""Point 33: a book."""

import random
import unittest

from lotplans.books import Book
from lotplans.errors import BadEdit, BadProblem, NothingToUndo
from tests.helpers import (
    EDGES, ODD_VALUES, ONE, SMALL, Case, bad_problems, interval_plans, least_of, part_of, plan_cost,
)

NAMES = ("demands", "setups", "units", "holdings")
TWO = ((2, 3), (4, 4), (0, 0), (1, 1))
TWELVE = (tuple(range(1, 13)), (20,) * 12, (1, 2) * 6, (1,) * 12)


def after(problem, value):
    """The problem after an edit that can be made."""
    rows = [list(row) for row in problem]
    if value[0] == "set":
        rows[NAMES.index(value[1])][value[2]] = value[3]
    elif value[0] == "put":
        for row, entry in zip(rows, value[2]):
            row.insert(value[1], entry)
    else:
        for row in rows:
            del row[value[1]]
    return tuple(tuple(row) for row in rows)


def fine_edits(problem, source):
    """Edits that can be made, at both ends and in between."""
    many = len(problem[0])
    found = [("set", name, period, source.choice([0, 999, source.randint(0, 20)]))
             for name in NAMES for period in {0, many - 1, source.randrange(many)}]
    if many < 12:
        found += [("put", place, tuple(source.randint(0, 9) for _ in range(4)))
                  for place in {0, many, source.randint(0, many)}]
    if many > 1:
        found += [("drop", period) for period in {0, many - 1, source.randrange(many)}]
    return found


def bad_edits(many):
    """Values that are not edits that can be made of a problem with so many periods."""
    found = list(ODD_VALUES) + ["set", "drop", ("set",), ("put",), ("drop",), ("undo",), ("drop", 0, 0), ("take", 0)]
    found += [["set", "demands", 0, 1], ["drop", 0], ["put", 0, (1, 1, 1, 1)], ("set", "demands", 0),
              ("set", "demands", 0, 1, 1), ("put", 0, 1, 1, 1, 1), ("put", 0), ("set", 0, 1), ("SET", "demands", 0, 1),
              ("Drop", 0), ("set ", "demands", 0, 1), (("set",), "demands", 0, 1), ({}, "demands", 0, 1),
              ({0: "drop"}, 0), ([], 0, (1, 1, 1, 1)), {"set": 1, "demands": 2, 0: 3, 1: 4}]
    for name in ("", "demand", "Demands", "lates", 0, None, True, ("demands",), ["demands"], {}):
        found.append(("set", name, 0, 1))
    periods = [-1, many, 10 ** 30, True, False, None, "0", (), (0,), [0], {}]
    found += [("set", name, period, 1) for name in NAMES for period in periods]
    found += [("drop", period) for period in periods]
    for entry in (-1, 1000, 10 ** 30, True, False, None, "1", (), (1,), [1], {}):
        found += [("set", name, 0, entry) for name in NAMES]
        for part in range(4):
            entries = [1, 1, 1, 1]
            entries[part] = entry
            found.append(("put", 0, tuple(entries)))
    found += [("put", place, (1, 1, 1, 1)) for place in [-1, many + 1] + periods[2:]]
    found += [("put", 0, entries)
              for entries in ((1, 1, 1), (1,) * 5, [1, 1, 1, 1], 1, None, "1111", (), {}, ((1,) * 4,))]
    if many == 1:
        found.append(("drop", 0))
    if many == 12:
        found += [("put", place, (1, 1, 1, 1)) for place in range(13)]
    return found


class Books(Case):
    def assert_state(self, book, problem, depth):
        """All that a book tells, twice over."""
        for _ in range(2):
            self.assertEqual(book.problem, problem)
            self.assertEqual((type(book.depth), book.depth), (int, depth))
            costs = book.costs()
            self.assertIs(type(costs), tuple)
            stages = [least_of(part_of(problem, 0, k)) for k in range(1, len(problem[0]) + 1)]
            self.assertEqual(list(costs), [0] + stages)
            plans = interval_plans(problem)
            least = [plan for plan in plans if plan_cost(problem, plan) == costs[-1]]
            self.assertEqual(book.plan(), min(least))
        self.assertEqual({type(x) for x in (book.problem,) + book.problem}, {tuple})

    def test_example(self):
        book = Book(TWO)
        answers = [book.trial(("set", "holdings", 0, 9)), book.edit(("put", 2, (5, 1, 0, 0))), book.plan(),
                   book.costs(), book.depth, book.undo(), book.problem]
        self.assertEqual(answers, [8, None, (5, 0, 5), (0, 4, 7, 8), 1, None, TWO])
        self.assert_raised(NothingToUndo, {}, book.undo)

    def test_a_new_book(self):
        for problem in EDGES[:7] + [SMALL, TWO]:
            self.assert_state(Book(problem), problem, 0)

    def test_each_kind_of_edit_at_its_edges(self):
        source = random.Random(86)
        for problem in (ONE, TWO, SMALL, part_of(TWELVE, 0, 7)):
            for value in fine_edits(problem, source):
                book = Book(problem)
                self.assertIsNone(book.edit(value))
                self.assert_state(book, after(problem, value), 1)
                self.assertIsNone(book.undo())
                self.assert_state(book, problem, 0)

    def test_set_changes_the_entry_that_is_told(self):
        for part, name in enumerate(NAMES):
            for period in range(3):
                for entry in (0, 7, 999):
                    book = Book(SMALL)
                    book.edit(("set", name, period, entry))
                    for one in range(4):
                        for other in range(3):
                            expected = entry if (one, other) == (part, period) else SMALL[one][other]
                            self.assertEqual(book.problem[one][other], expected)

    def test_put_and_drop_at_each_place(self):
        for place in range(4):
            book = Book(SMALL)
            book.edit(("put", place, (5, 6, 7, 8)))
            for row, old, entry in zip(book.problem, SMALL, (5, 6, 7, 8)):
                self.assertEqual(row, old[:place] + (entry,) + old[place:])
            book.edit(("drop", place))
            self.assertEqual(book.problem, SMALL)
            self.assertEqual(book.depth, 2)

    def test_a_thirteenth_period(self):
        book = Book(part_of(TWELVE, 0, 11))
        book.edit(("put", 11, (12, 20, 2, 1)))
        self.assertEqual(book.problem, TWELVE)
        for place in (0, 5, 11, 12, 13):
            for call in (book.edit, book.trial):
                self.assert_raised(BadEdit, {}, call, ("put", place, (1, 1, 1, 1)))
        self.assertEqual((book.problem, book.depth), (TWELVE, 1))
        book.edit(("drop", 11))
        self.assert_state(book, part_of(TWELVE, 0, 11), 2)

    def test_the_last_period_that_is_left(self):
        book = Book(TWO)
        book.edit(("drop", 0))
        self.assertEqual(book.problem, part_of(TWO, 1, 2))
        for period in (0, 1, -1):
            for call in (book.edit, book.trial):
                self.assert_raised(BadEdit, {}, call, ("drop", period))
        self.assert_state(book, part_of(TWO, 1, 2), 1)
        book.edit(("set", "demands", 0, 0))
        self.assert_state(book, ((0,),) + part_of(TWO, 1, 2)[1:], 2)

    def test_edits_and_undo_in_order(self):
        source = random.Random(87)
        for start in (ONE, SMALL, TWELVE):
            book, past = Book(start), [start]
            for _ in range(60):
                if source.random() < 0.35:
                    if len(past) == 1:
                        self.assert_raised(NothingToUndo, {}, book.undo)
                    else:
                        book.undo()
                        past.pop()
                else:
                    value = source.choice(fine_edits(past[-1], source))
                    book.edit(value)
                    past.append(after(past[-1], value))
                self.assertEqual((book.problem, book.depth), (past[-1], len(past) - 1))
                if len(past[-1][0]) <= 6:
                    self.assert_state(book, past[-1], len(past) - 1)
            while len(past) > 1:
                book.undo()
                past.pop()
                self.assertEqual((book.problem, book.depth), (past[-1], len(past) - 1))
            self.assert_raised(NothingToUndo, {}, book.undo)
            self.assertEqual((book.problem, book.depth), (start, 0))

    def test_an_edit_that_changes_nothing_counts(self):
        book = Book(SMALL)
        book.edit(("set", "demands", 0, 2))
        self.assert_state(book, SMALL, 1)
        book.undo()
        self.assert_state(book, SMALL, 0)

    def test_edits_behind_undo(self):
        book = Book(TWO)
        book.edit(("drop", 0))
        book.edit(("set", "setups", 0, 9))
        book.undo()
        book.edit(("set", "setups", 0, 5))
        self.assert_state(book, ((3,), (5,), (0,), (1,)), 2)
        book.undo()
        book.undo()
        self.assert_state(book, TWO, 0)

    def test_trial_changes_nothing(self):
        source = random.Random(88)
        for problem in (ONE, TWO, SMALL, part_of(TWELVE, 2, 8)):
            book = Book(problem)
            book.edit(("set", "units", 0, 1))
            now = book.problem
            for value in fine_edits(now, source):
                found = book.trial(value)
                self.assertEqual((type(found), found), (int, least_of(after(now, value))), (now, value))
                self.assertEqual((book.problem, book.depth), (now, 1))
            for value in bad_edits(len(now[0])):
                self.assert_raised(BadEdit, {}, book.trial, value)
                self.assertEqual((book.problem, book.depth), (now, 1))
            self.assert_state(book, now, 1)
            book.undo()
            self.assert_state(book, problem, 0)

    def test_a_bad_edit_leaves_the_book_as_it_was(self):
        for problem in (ONE, TWO, SMALL, TWELVE):
            book = Book(problem)
            for value in bad_edits(len(problem[0])):
                self.assert_raised(BadEdit, {}, book.edit, value)
                self.assertEqual((book.problem, book.depth), (problem, 0), value)
            self.assert_raised(NothingToUndo, {}, book.undo)
            book.edit(("set", "setups", 0, 1))
            for value in bad_edits(len(problem[0])):
                self.assert_raised(BadEdit, {}, book.edit, value)
            self.assertEqual((book.problem, book.depth), (after(problem, ("set", "setups", 0, 1)), 1))

    def test_books_do_not_share_anything(self):
        one, other = Book(TWO), Book(TWO)
        one.edit(("drop", 1))
        self.assert_state(other, TWO, 0)
        self.assert_raised(NothingToUndo, {}, other.undo)
        other.edit(("set", "demands", 0, 9))
        self.assertEqual(one.problem, part_of(TWO, 0, 1))

    def test_wrong_problems(self):
        for value, part, index in bad_problems():
            self.assert_raised(BadProblem, {"part": part, "index": index}, Book, value)


if __name__ == "__main__":
    unittest.main()
