"""Stores with chances: orders up to levels, ahead of demands of which only the weights are known.

What is expected is told as an integer, times the sum of the weights to the power of the number of periods it is over.
"""

from lotplans.checks import is_integer, is_place, is_tuple_of
from lotplans.errors import BadAmount, BadLevels, BadPeriod, BadStore, BadValues
from lotplans.ratios import ratio

# the least of the first four things of a store
LEASTS = (0, 0, 1, 1)
GREATEST_COST = 99
MOST_WEIGHTS = 5
GREATEST_WEIGHT = 20
MOST_STORE_PERIODS = 4
GREATEST_STOCK = 50
GREATEST_LEVEL = 999

# Below 0 the cost from a level on falls by more than 0 with each unit, so that no low is below the greatest setup.
LOWEST_LEVEL = -100


def check_store(store):
    """Raises BadStore for a value that is not a store."""
    if not is_tuple_of(store, 6):
        raise BadStore(None)
    for index in range(6):
        if not is_store_part(store, index):
            raise BadStore(index)


def is_store_part(store, index):
    """Whether one of the six things of a store is allowed, if those ahead of it are."""
    value = store[index]
    if index == 4:
        return are_chances(value)
    if index == 5:
        return is_integer(value) and 1 <= value <= MOST_STORE_PERIODS
    if not is_integer(value) or not LEASTS[index] <= value <= GREATEST_COST:
        return False
    return index != 3 or value > store[1]


def are_chances(value):
    """Whether a value is a tuple of 1 to 5 weights that are not all 0."""
    if not isinstance(value, tuple) or not 1 <= len(value) <= MOST_WEIGHTS:
        return False
    if not all([is_integer(weight) and 0 <= weight <= GREATEST_WEIGHT for weight in value]):
        return False
    return sum(value) > 0


def check_stock(value):
    """Raises BadAmount for a value that is not an integer from -50 to 50."""
    if not is_integer(value) or not -GREATEST_STOCK <= value <= GREATEST_STOCK:
        raise BadAmount("not an integer from -50 to 50")


def check_levels(store, value):
    """Raises BadLevels for a value that does not tell a low and a high level for each period."""
    if not is_tuple_of(value, store[5]) or not all([is_level_pair(pair) for pair in value]):
        raise BadLevels("not a pair of levels for each period")


def is_level_pair(value):
    """Whether a value is a pair of integers from -999 to 999, the first one at most the second one."""
    if not is_tuple_of(value, 2) or not all([is_integer(level) for level in value]):
        return False
    return -GREATEST_LEVEL <= value[0] <= value[1] <= GREATEST_LEVEL


def left_cost(store, level, demand):
    """What a period costs behind its order, up to a level, and a demand."""
    return store[2] * max(level - demand, 0) + store[3] * max(demand - level, 0)


def scale_of(store, many):
    """The sum of the weights to the power of so many periods."""
    scale = 1
    for _ in range(many):
        scale *= sum(store[4])
    return scale


def lowest_level(period):
    """The lowest level of a period that is looked at: each period ahead may have taken the greatest demand."""
    return LOWEST_LEVEL - (MOST_WEIGHTS - 1) * period


def level_tables(store):
    """The list, for each period, of the dict of the costs from the levels on."""
    periods = store[5]
    rests = {stock: 0 for stock in range(lowest_level(periods), GREATEST_STOCK + 1)}
    tables = []
    for period in reversed(range(periods)):
        table = level_costs(store, period, rests)
        rests = stock_costs(store, period, table)
        tables.append(table)
    return tables[::-1]


def level_costs(store, period, rests):
    """The dict of the costs from the levels of a period on, found from the least costs of the stocks behind it."""
    scale = scale_of(store, store[5] - period)
    later = scale_of(store, store[5] - period - 1)
    table = {}
    for level in range(lowest_level(period), GREATEST_STOCK + 1):
        paid = store[1] * level * scale
        for demand, weight in enumerate(store[4]):
            paid += weight * (left_cost(store, level, demand) * later + rests[level - demand])
        table[level] = paid
    return table


def stock_costs(store, period, table):
    """The dict of the least costs from the stocks of a period on, with an order or without one.

    No greater levels are needed: from the greatest demand of all periods on each further unit costs its holding.
    """
    scale = scale_of(store, store[5] - period)
    costs = {}
    best = table[GREATEST_STOCK]
    for stock in reversed(range(lowest_level(period), GREATEST_STOCK + 1)):
        best = min(best, table[stock])
        costs[stock] = min(table[stock], best + store[0] * scale) - store[1] * stock * scale
    return costs


def least_store_cost(store, stock):
    """The ratio of the least expected cost from a stock on."""
    check_store(store)
    check_stock(stock)
    return ratio(stock_costs(store, 0, level_tables(store)[0])[stock], scale_of(store, store[5]))


def levels_cost(store, levels, stock):
    """The ratio of the expected cost from a stock on if orders follow levels."""
    check_store(store)
    check_levels(store, levels)
    check_stock(stock)
    paid = 0
    states = {stock: 1}
    for low, high in levels:
        paid += sum([weight * order_cost(store, low, high, start) for start, weight in states.items()])
        paid *= sum(store[4])
        behind = {}
        for start, weight in states.items():
            level = high if start < low else start
            for demand, chance in enumerate(store[4]):
                paid += weight * chance * left_cost(store, level, demand)
                behind[level - demand] = behind.get(level - demand, 0) + weight * chance
        states = behind
    return ratio(paid, scale_of(store, store[5]))


def order_cost(store, low, high, stock):
    """What the order that is placed from a stock on, if it is less than low, costs."""
    return store[0] + store[1] * (high - stock) if stock < low else 0


def levels(store):
    """The tuple, for each period, of the pair of the levels that cost least from each stock on."""
    check_store(store)
    pairs = []
    for period, table in enumerate(level_tables(store)):
        least = min(list(table.values()))
        high = min([level for level in table if table[level] == least])
        most = least + store[0] * scale_of(store, store[5] - period)
        low = high
        while table[low - 1] <= most:
            low -= 1
        pairs.append((low, high))
    return tuple(pairs)


def table_of(store, period, least, most):
    """The tuple of the costs from the levels from least to most on, as integers."""
    check_store(store)
    if not is_place(period, store[5]):
        raise BadPeriod("not a period")
    check_stock(least)
    check_stock(most)
    if most < least:
        raise BadAmount("the greatest level is less than the least one")
    table = level_tables(store)[period]
    return tuple([table[level] for level in range(least, most + 1)])


def bend(values, setup):
    """The least triple of indexes between which values bend more than a setup allows, None if there is none."""
    if not isinstance(values, tuple) or not all([is_integer(value) for value in values]):
        raise BadValues("not a tuple of integers")
    if not is_integer(setup) or setup < 0:
        raise BadAmount("not an integer of at least 0")
    for first in range(len(values)):
        for middle in range(first + 1, len(values)):
            for last in range(middle, len(values)):
                fall = setup + values[last] - values[middle]
                if fall * (middle - first) < (values[middle] - values[first]) * (last - middle):
                    return (first, middle, last)
    return None
