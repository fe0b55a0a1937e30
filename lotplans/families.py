"""Items with intervals in order, found by clusters, and intervals that are powers of 2."""

from lotplans.checks import is_integer, is_place, is_tuple_of
from lotplans.errors import BadArcs, BadExponents, BadItems
from lotplans.groups import groups_of
from lotplans.ratios import divided, is_less, is_ratio, multiplied, plus, ratio, times, total

MOST_ITEMS = 8
GREATEST_COST = 9999
GREATEST_EXPONENT = 20


def check_items(items):
    """Raises BadItems for a value that is not a tuple of 1 to 8 pairs of costs."""
    if not isinstance(items, tuple) or not 1 <= len(items) <= MOST_ITEMS:
        raise BadItems(None)
    for index, item in enumerate(items):
        if not is_tuple_of(item, 2) or not all([is_integer(part) and 1 <= part <= GREATEST_COST for part in item]):
            raise BadItems(index)


def check_arcs(items, arcs):
    """Raises BadArcs for a value that is not an ascending tuple of different pairs of different items."""
    if not isinstance(arcs, tuple) or not all([is_arc(arc, len(items)) for arc in arcs]):
        raise BadArcs("not a tuple of pairs of different items")
    if not all([arcs[k - 1] < arcs[k] for k in range(1, len(arcs))]):
        raise BadArcs("not ascending")


def is_arc(value, many):
    """Whether a value is a pair of two different places below many."""
    return is_tuple_of(value, 2) and all([is_place(thing, many) for thing in value]) and value[0] != value[1]


def check_exponents(items, value):
    """Raises BadExponents for a value that is not a tuple of an integer from -20 to 20 for each item."""
    if not is_tuple_of(value, len(items)):
        raise BadExponents("not an exponent for each item")
    for thing in value:
        if not is_integer(thing) or not -GREATEST_EXPONENT <= thing <= GREATEST_EXPONENT:
            raise BadExponents("not an integer from -20 to 20")


def clusters(items, arcs):
    """The tuple of the pairs of the ratio and the members of each cluster."""
    check_items(items)
    check_arcs(items, arcs)
    found = []
    left = tuple(range(len(items)))
    while left:
        members = greatest_upper(items, arcs, left)
        found.append((ratio_of(items, members), members))
        left = tuple([item for item in left if item not in members])
    return tuple(found)


def greatest_upper(items, arcs, left):
    """The union of the upper subsets of the items left that have the greatest ratio, ascending."""
    union = left
    for group in groups_of(len(left))[1:]:
        members = tuple([left[place] for place in group])
        if is_upper(arcs, left, members):
            if is_less(ratio_of(items, union), ratio_of(items, members)):
                union = members
            elif ratio_of(items, union) == ratio_of(items, members):
                # the union of two sets with the greatest ratio has it, too
                union = tuple(sorted(set(union + members)))
    return union


def is_upper(arcs, left, members):
    """Whether members have, with each one, all items left whose intervals must not be shorter."""
    return not any([goal in members and start in left and start not in members for start, goal in arcs])


def sums_of(items, members):
    """The pair of the sums of the setups and of the keeps of some items."""
    return (sum([items[item][0] for item in members]), sum([items[item][1] for item in members]))


def ratio_of(items, members):
    """The ratio of a set of items: the sum of its setups divided by that of its keeps."""
    setups, keeps = sums_of(items, members)
    return ratio(setups, keeps)


def shows_clusters(items, arcs, value):
    """Whether a value is the tuple of the clusters."""
    told = clusters(items, arcs)
    return isinstance(value, tuple) and all([is_cluster(thing) for thing in value]) and value == told


def is_cluster(value):
    """Whether a value is a pair of a ratio and a tuple of integers."""
    if not is_tuple_of(value, 2) or not is_ratio(value[0]) or not isinstance(value[1], tuple):
        return False
    return all([is_integer(member) for member in value[1]])


def power_cost(items, exponents):
    """The ratio that all items cost if their intervals are 2 to the power of their exponents."""
    check_items(items)
    check_exponents(items, exponents)
    return total([interval_cost(item, exponent) for item, exponent in zip(items, exponents)])


def interval_cost(costs, exponent):
    """The ratio that the pair of a setup and a keep costs with an interval of 2 to the power of an exponent."""
    interval = (1 << exponent, 1) if exponent >= 0 else (1, 1 << -exponent)
    return plus(divided((costs[0], 1), interval), times(interval, costs[1]))


def keeps_order(items, arcs, exponents):
    """Whether no interval is shorter than one that an arc leads to from it."""
    check_items(items)
    check_arcs(items, arcs)
    check_exponents(items, exponents)
    return all([exponents[start] >= exponents[goal] for start, goal in arcs])


def exponents(items, arcs):
    """The tuple of the exponents of the items, that of each one found from the ratio of its cluster."""
    told = clusters(items, arcs)
    found = [0] * len(items)
    for worth, members in told:
        for item in members:
            found[item] = exponent_of(worth)
    return tuple(found)


def exponent_of(worth):
    """The k with 2 ** (2 * k - 1) <= worth < 2 ** (2 * k + 1), for a ratio above 0."""
    top, bottom = worth
    exponent = 0
    while top >= 2 * bottom:
        bottom *= 4
        exponent += 1
    while 2 * top < bottom:
        top *= 4
        exponent -= 1
    return exponent


def cluster_bound(items, arcs):
    """For each cluster, the squares of what it costs with its exponent, and at least with one interval."""
    bounds = []
    for worth, members in clusters(items, arcs):
        setups, keeps = sums_of(items, members)
        paid = interval_cost((setups, keeps), exponent_of(worth))
        bounds.append((multiplied(paid, paid), (4 * setups * keeps, 1)))
    return tuple(bounds)
