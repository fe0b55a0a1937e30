"""Plans whose stocks have rooms."""

from lotplans.checks import are_entries, check_problem
from lotplans.errors import BadRooms
from lotplans.lots import part_of
from lotplans.paths import best_ways
from lotplans.plans import check_plan, running_cost, setup_cost, single_plan, start_periods, stock_levels


def check_rooms(problem, rooms):
    """Raises BadRooms for a value that does not tell a room for each period."""
    if not are_entries(rooms, len(problem[0])):
        raise BadRooms("not an entry for each period")


def fits(problem, rooms, plan):
    """Whether no stock of a plan is greater than its room."""
    check_problem(problem)
    check_rooms(problem, rooms)
    check_plan(problem, plan)
    return are_within(rooms, stock_levels(problem[0], plan))


def are_within(rooms, levels):
    """Whether stocks are at least 0 and not greater than their rooms."""
    return all([0 <= level <= room for room, level in zip(rooms, levels)])


def is_edged(problem, rooms, plan):
    """Whether between any two amounts, one directly behind the other, some stock is 0 or its room."""
    check_problem(problem)
    check_rooms(problem, rooms)
    check_plan(problem, plan)
    levels = stock_levels(problem[0], plan)
    periods = start_periods(plan)
    return all([has_edge(rooms, levels, periods[k - 1], periods[k]) for k in range(1, len(periods))])


def has_edge(rooms, levels, start, end):
    """Whether some stock from the end of start to that of the period ahead of end is 0 or its room."""
    return any([levels[period] in (0, rooms[period]) for period in range(start, end)])


def roomed_cost(problem, rooms):
    """The least cost of a plan within rooms; each period can make its own demand, so that there always is one."""
    return roomed_way(problem, rooms)[0]


def roomed_plan(problem, rooms):
    """An edged plan within rooms with this cost."""
    return roomed_way(problem, rooms)[1]


def roomed_way(problem, rooms):
    """The least cost and the amounts of an edged plan within rooms.

    Its steps lead from stock to stock, each being 0 or its room, with one amount at most in between.
    """
    check_problem(problem)
    check_rooms(problem, rooms)
    many = len(rooms)
    places = [(0, 0)]
    for period in range(1, many):
        places.extend([(period, 0), (period, rooms[period - 1])])
    places.append((many, 0))
    return best_ways(len(places) - 1, lambda place, goal: room_step(problem, rooms, places[place], places[goal]))[-1]


def room_step(problem, rooms, place, goal):
    """The least cost and the amounts of a step with one amount at most, None if none is within rooms.

    A place is the pair of a period and the stock ahead of it.
    """
    start, stock = place
    end, left = goal
    part = part_of(problem, start, end)
    amount = left + sum(part[0]) - stock
    if amount < 0:
        return None
    found = []
    for period in range(end - start):
        amounts = single_plan(end - start, period, amount)
        levels = [stock + level for level in stock_levels(part[0], amounts)]
        if are_within(rooms[start:end], levels):
            found.append((setup_cost(part, amounts) + running_cost(part, amounts, levels), amounts))
    return min(found, default=None)
