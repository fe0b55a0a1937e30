"""Lines of stages, each of which takes what the one ahead makes."""

from lotplans.checks import are_amounts, are_entries, are_some_entries, is_tuple_of
from lotplans.errors import BadLine, BadLinePlan, NotFavored
from lotplans.plans import running_cost, setup_cost, stock_levels

MOST_LINE_PERIODS = 6
MOST_STAGES = 3


def check_line(line):
    """Raises BadLine for a value that is not a line."""
    if not is_tuple_of(line, 2) or not are_some_entries(line[0], MOST_LINE_PERIODS):
        raise BadLine(None)
    demands, stages = line
    if not isinstance(stages, tuple) or not 1 <= len(stages) <= MOST_STAGES:
        raise BadLine(None)
    for index, stage in enumerate(stages):
        if not is_tuple_of(stage, 3) or not all([are_entries(row, len(demands)) for row in stage]):
            raise BadLine(index)


def check_line_plan(line, plan):
    """Raises BadLinePlan for a value that is not a plan of the line."""
    demands, stages = line
    if not is_tuple_of(plan, len(stages)) or not all([are_amounts(row, len(demands)) for row in plan]):
        raise BadLinePlan("not an amount for each stage and period")
    for stage, amounts in enumerate(plan):
        levels = stock_levels(taken_from(line, plan, stage), amounts)
        if min(levels) < 0 or levels[-1] > 0:
            raise BadLinePlan("a stock is below 0, or left at the end")


def taken_from(line, plan, stage):
    """What is taken in each period of what a stage makes: by the next stage, or by the demands."""
    return plan[stage + 1] if stage + 1 < len(plan) else line[0]


def line_plan_cost(line, plan):
    """What a plan of a line costs: setups, units and holdings of all stages."""
    check_line(line)
    check_line_plan(line, plan)
    return sum([stage_cost(line, plan, stage) for stage in range(len(plan))])


def stage_cost(line, plan, stage):
    """What one stage of a plan costs."""
    taken = taken_from(line, plan, stage)
    problem = (taken,) + line[1][stage]
    return setup_cost(problem, plan[stage]) + running_cost(problem, plan[stage], stock_levels(taken, plan[stage]))


def line_cost(line):
    """The least cost of a plan of a line."""
    return line_way(line)[0]


def line_plan(line):
    """A plan of a line with this cost."""
    moves = line_way(line)[1]
    rows = [[0] * len(line[0]) for _ in line[1]]
    for stage, period, amount in moves:
        rows[stage][period] += amount
    return tuple([tuple(row) for row in rows])


def line_way(line):
    """The least cost of a line, and the moves of a plan with it."""
    check_line(line)
    return best_moves(line, {}, (0, 0, 0, len(line[0])))


def best_moves(line, known, place):
    """The least cost of meeting some demands with what is at a place, and the moves that do so.

    A place is (passed, period, first, end): the stages that are passed, the period, and the demands from first up to,
    but without, end. Some least plan moves, at each place, whole demands that are one behind another. A move is a
    stage, a period and an amount. The dict known keeps what is found for each place.
    """
    if place not in known:
        known[place] = found_moves(line, known, place)
    return known[place]


def found_moves(line, known, place):
    """best_moves for a place that is not known yet."""
    passed, period, first, end = place
    demands, stages = line
    if sum(demands[first:end]) == 0:
        return (0, ())
    if passed == len(stages):
        return (last_holding(line, period, first, end), ())
    ways = []
    for cut in range(max(first, period + 1), end + 1):
        # the demands up to cut go on to the next stage, the others wait for the next period
        pass_on = passing(line, known, place, cut)
        wait = waiting(line, known, place, cut)
        ways.append((pass_on[0] + wait[0], pass_on[1] + wait[1]))
    return min(ways)


def passing(line, known, place, cut):
    """The least cost and the moves if the next stage makes the demands of a place up to cut now."""
    passed, period, first, end = place
    amount = sum(line[0][first:cut])
    if amount == 0:
        return (0, ())
    setups, units, holdings = line[1][passed]
    paid, moves = best_moves(line, known, (passed + 1, period, first, cut))
    return (setups[period] + units[period] * amount + paid, ((passed, period, amount),) + moves)


def waiting(line, known, place, cut):
    """The least cost and the moves if the demands of a place from cut on are kept to the next period.

    What no stage has made yet is kept for nothing.
    """
    passed, period, first, end = place
    holding = line[1][passed - 1][2][period] if passed > 0 else 0
    paid, moves = best_moves(line, known, (passed, period + 1, cut, end))
    return (holding * sum(line[0][cut:end]) + paid, moves)


def last_holding(line, period, first, end):
    """What keeping the demands from first up to, but without, end behind the last stage costs, from a period on."""
    demands, stages = line
    holdings = stages[-1][2]
    return sum([demands[goal] * sum(holdings[period:goal]) for goal in range(first, end)])


def is_nested(line, plan):
    """Whether each stage makes something in each period in which the one ahead does."""
    check_line(line)
    check_line_plan(line, plan)
    for stage in range(1, len(plan)):
        if any([ahead > 0 and amount == 0 for ahead, amount in zip(plan[stage - 1], plan[stage])]):
            return False
    return True


def favors_nested(line):
    """Whether setups and unit costs never rise from period to period, and holdings never fall from stage to stage."""
    check_line(line)
    stages = line[1]
    if not all([never_rises(setups) and never_rises(units) for setups, units, holdings in stages]):
        return False
    return all([is_nowhere_above(stages[k - 1][2], stages[k][2]) for k in range(1, len(stages))])


def never_rises(row):
    """Whether nothing in a row is less than what comes next."""
    return all([row[k - 1] >= row[k] for k in range(1, len(row))])


def is_nowhere_above(row, other):
    """Whether nothing in a row is greater than what is at the same place of another one."""
    return all([one <= two for one, two in zip(row, other)])


def nested_plan(line):
    """A nested plan with the least cost of the line.

    If a stage makes something some periods ahead of the next stage, it may as well wait for it: neither its setup and
    unit cost nor the stage in which the units wait then cost more.
    """
    if not favors_nested(line):
        raise NotFavored("nested plans need not cost least")
    rows = list(line_plan(line))
    for stage in reversed(range(len(rows) - 1)):
        rows[stage] = delayed(rows[stage], rows[stage + 1])
    return tuple(rows)


def delayed(row, following):
    """A row with each amount moved to the first period from its own on in which the following row has an amount."""
    amounts = [0] * len(row)
    for period, amount in enumerate(row):
        if amount > 0:
            goal = period
            while following[goal] == 0:
                goal += 1
            amounts[goal] += amount
    return tuple(amounts)
