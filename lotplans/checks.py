"""Whether values are of the kinds that the package takes."""

from lotplans.errors import BadAmount, BadPeriod, BadProblem, NotPositive

GREATEST_ENTRY = 999
GREATEST_AMOUNT = 9999
MOST_PERIODS = 12


def is_integer(value):
    """Whether a value is an integer: True and False are none here."""
    return type(value) is int


def is_tuple_of(value, many):
    """Whether a value is a tuple of so many things."""
    return isinstance(value, tuple) and len(value) == many


def is_entry(value):
    """Whether a value is an integer from 0 to 999."""
    return is_integer(value) and 0 <= value <= GREATEST_ENTRY


def are_entries(value, many):
    """Whether a value is a tuple of so many entries."""
    return is_tuple_of(value, many) and all([is_entry(thing) for thing in value])


def are_some_entries(value, most):
    """Whether a value is a tuple of entries, at least one of them and at most so many."""
    return isinstance(value, tuple) and 1 <= len(value) <= most and are_entries(value, len(value))


def are_amounts(value, many):
    """Whether a value is a tuple of so many integers of at least 0."""
    return is_tuple_of(value, many) and all([is_integer(thing) and thing >= 0 for thing in value])


def is_place(value, many):
    """Whether a value is an integer from 0 up to, but without, many."""
    return is_integer(value) and 0 <= value < many


def are_places(value, many):
    """Whether a value is an ascending tuple of different places below many."""
    if not isinstance(value, tuple) or not all([is_place(thing, many) for thing in value]):
        return False
    return all([value[k - 1] < value[k] for k in range(1, len(value))])


def has_problem_shape(value):
    """Whether a value is a tuple of four tuples of one length, from 1 to 12."""
    if not is_tuple_of(value, 4) or not all([isinstance(row, tuple) for row in value]):
        return False
    many = len(value[0])
    return 1 <= many <= MOST_PERIODS and all([len(row) == many for row in value])


def check_problem(problem):
    """Raises BadProblem for a value that is not a problem."""
    if not has_problem_shape(problem):
        raise BadProblem(None, None)
    for part, row in enumerate(problem):
        for index, thing in enumerate(row):
            if not is_entry(thing):
                raise BadProblem(part, index)


def check_positive(problem):
    """Raises BadProblem for a value that is not a problem, NotPositive for one with a demand of 0."""
    check_problem(problem)
    for period, demand in enumerate(problem[0]):
        if demand == 0:
            raise NotPositive(period)


def check_period(problem, value):
    """Raises BadPeriod for a value that is not a period of the problem."""
    if not is_place(value, len(problem[0])):
        raise BadPeriod("not a period")


def check_amount(value):
    """Raises BadAmount for a value that is not an integer from 1 to 9999."""
    if not is_integer(value) or not 1 <= value <= GREATEST_AMOUNT:
        raise BadAmount("not an integer from 1 to 9999")
