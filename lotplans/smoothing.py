"""Amounts as even as rooms allow, and how tuples of parts become more even."""

from lotplans.checks import MOST_PERIODS, are_entries, are_some_entries, is_place, is_tuple_of
from lotplans.errors import BadAmounts, BadRooms
from lotplans.ratios import ZERO, are_weights, is_less, is_ratio, minus, plus, ratio, rising_order, total


def check_both(demands, rooms):
    """Raises BadRooms for values that are not tuples of entries for the same 1 to 12 periods."""
    if not are_some_entries(demands, MOST_PERIODS) or not are_entries(rooms, len(demands)):
        raise BadRooms("not an entry for each of 1 to 12 periods")


def fits_rooms(demands, rooms, amounts):
    """Whether a value is amounts whose stocks are from 0 to the rooms, and 0 at the end."""
    check_both(demands, rooms)
    if not are_weights(amounts, len(demands)):
        return False
    stock = ZERO
    for demand, room, amount in zip(demands, rooms, amounts):
        stock = minus(plus(stock, amount), (demand, 1))
        if stock[0] < 0 or is_less((room, 1), stock):
            return False
    return stock == ZERO


def even(demands, rooms):
    """The amounts whose sums are the shortest line between the sums of the demands and these with rooms added."""
    check_both(demands, rooms)
    many = len(demands)
    floors = [sum(demands[:place]) for place in range(many + 1)]
    # no room counts ahead of the first period and at the end, where nothing is left
    tops = [floor + room for floor, room in zip(floors, (0,) + rooms[:-1] + (0,))]
    amounts = []
    knot = (0, 0)
    while knot[0] < many:
        goal = next_knot(floors, tops, knot)
        amounts.extend([slope(knot, goal)] * (goal[0] - knot[0]))
        knot = goal
    return tuple(amounts)


def next_knot(floors, tops, knot):
    """The pair of the next place where the shortest line from a knot on may bend, or its end, and its height there.

    As long as one straight line fits between the steepest floor and the flattest top, it goes on; where none does any
    more, it bends at that one of the two which is in the way.
    """
    place = knot[0] + 1
    steepest, flattest = (place, floors[place]), (place, tops[place])
    for goal in range(place, len(floors)):
        floor, top = (goal, floors[goal]), (goal, tops[goal])
        if is_less(slope(knot, flattest), slope(knot, floor)):
            return flattest
        if is_less(slope(knot, top), slope(knot, steepest)):
            return steepest
        if not is_less(slope(knot, floor), slope(knot, steepest)):
            steepest = floor
        if not is_less(slope(knot, flattest), slope(knot, top)):
            flattest = top
    return steepest


def slope(one, other):
    """The ratio by which the line from one knot to a later one rises."""
    return ratio(other[1] - one[1], other[0] - one[0])


def check_amounts(one, other):
    """Raises BadAmounts for values that are not tuples of 1 to 12 ratios with the same length and sum."""
    if not are_ratios(one) or not are_ratios(other):
        raise BadAmounts("not a tuple of 1 to 12 ratios")
    if len(one) != len(other) or total(one) != total(other):
        raise BadAmounts("not the same length and sum")


def are_ratios(value):
    """Whether a value is a tuple of 1 to 12 ratios."""
    return isinstance(value, tuple) and 1 <= len(value) <= MOST_PERIODS and all([is_ratio(thing) for thing in value])


def falling(values):
    """The list of the ratios of a list or tuple in falling order."""
    return [values[place] for place in rising_order(values)][::-1]


def uneven_at(one, other):
    """The least number of greatest parts of one that are less than as many of other, None if there is none."""
    check_amounts(one, other)
    parts, goals = falling(one), falling(other)
    for many in range(1, len(parts) + 1):
        if is_less(total(parts[:many]), total(goals[:many])):
            return many
    return None


def transfers(one, other):
    """Transfers that lead from one to other, None if there are none.

    Each one takes what the last place with too much, ahead of the first one that lacks something, has above its goal.
    Up to no place do the parts then add up to less than the goals, and what is taken is moved on, but never back.
    """
    if uneven_at(one, other) is not None:
        return None
    parts, goals = falling(one), falling(other)
    steps = []
    while parts != goals:
        goal = [place for place in range(len(parts)) if is_less(parts[place], goals[place])][0]
        start = [place for place in range(goal) if is_less(goals[place], parts[place])][-1]
        moved = minus(parts[start], goals[start])
        parts = after_transfer(parts, start, goal, moved)
        steps.append((start, goal, moved))
    return tuple(steps)


def after_transfer(parts, start, goal, moved):
    """The parts with so much taken from the one at start and added to the one at goal."""
    changed = list(parts)
    changed[start] = minus(changed[start], moved)
    changed[goal] = plus(changed[goal], moved)
    return changed


def shows_transfers(one, other, value):
    """Whether a value is a tuple of transfers that lead from one to other."""
    check_amounts(one, other)
    if not isinstance(value, tuple) or not all([is_transfer(step, len(one)) for step in value]):
        return False
    parts = falling(one)
    for start, goal, moved in value:
        if is_less(minus(parts[start], parts[goal]), moved):
            return False
        parts = after_transfer(parts, start, goal, moved)
    return falling(parts) == falling(other)


def is_transfer(value, many):
    """Whether a value is a triple of two places below many and a ratio above 0."""
    if not is_tuple_of(value, 3) or not is_place(value[0], many) or not is_place(value[1], many):
        return False
    return is_ratio(value[2]) and value[2][0] > 0
