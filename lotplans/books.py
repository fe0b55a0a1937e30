"""A problem that is changed by edits."""

from lotplans.checks import MOST_PERIODS, are_entries, check_problem, is_entry, is_place, is_tuple_of
from lotplans.errors import BadEdit, NothingToUndo
from lotplans.intervals import least_cost, least_plan, stage_costs
from lotplans.texts import NAMES


class Book:
    """A problem, and those that it was ahead of each edit that can be taken back."""

    def __init__(self, problem):
        check_problem(problem)
        self._now = problem
        self._past = []

    @property
    def problem(self):
        """The problem as it is now."""
        return self._now

    @property
    def depth(self):
        """The number of edits that can be taken back."""
        return len(self._past)

    def edit(self, value):
        """Changes the problem by an edit."""
        changed = edited(self._now, value)
        self._past.append(self._now)
        self._now = changed

    def undo(self):
        """Takes the last edit back that has not been taken back."""
        if len(self._past) == 0:
            raise NothingToUndo("no edit can be taken back")
        self._now = self._past.pop()

    def trial(self, value):
        """The least cost that the problem would have after an edit."""
        return least_cost(edited(self._now, value))

    def plan(self):
        """The least one of the interval plans with the least cost."""
        return least_plan(self._now)

    def costs(self):
        """The tuple of the least costs of the first 0, 1, .. periods alone."""
        return stage_costs(self._now)


def edited(problem, value):
    """The problem after an edit; raises BadEdit for a value that is not an edit that can be made."""
    many = len(problem[0])
    if is_set(many, value):
        return with_entry(problem, NAMES.index(value[1]), value[2], value[3])
    if is_put(many, value):
        place, entries = value[1], value[2]
        return tuple([row[:place] + (entry,) + row[place:] for row, entry in zip(problem, entries)])
    if is_drop(many, value):
        return tuple([row[:value[1]] + row[value[1] + 1:] for row in problem])
    raise BadEdit("not an edit that can be made")


def with_entry(problem, part, period, entry):
    """The problem with one entry of one of its four parts changed."""
    row = problem[part]
    return problem[:part] + (row[:period] + (entry,) + row[period + 1:],) + problem[part + 1:]


def is_set(many, value):
    """Whether a value is an edit that changes an entry of a problem with so many periods."""
    if not is_tuple_of(value, 4) or value[0] != "set" or value[1] not in NAMES:
        return False
    return is_place(value[2], many) and is_entry(value[3])


def is_put(many, value):
    """Whether a value is an edit that puts one period into a problem with so many periods."""
    if not is_tuple_of(value, 3) or value[0] != "put" or many == MOST_PERIODS:
        return False
    return is_place(value[1], many + 1) and are_entries(value[2], 4)


def is_drop(many, value):
    """Whether a value is an edit that takes a period away from a problem with so many periods."""
    if not is_tuple_of(value, 2) or value[0] != "drop" or many == 1:
        return False
    return is_place(value[1], many)
