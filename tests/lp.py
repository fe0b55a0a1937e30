"""The exact least value of a linear program, by the simplex method with the rule of the least index."""

from fractions import Fraction


def least_value(costs, at_least, equal):
    """The least sum of costs times variables of at least 0, None if there are none that meet the conditions.

    A condition is a pair of a list of factors and what they add up to, at least or exactly.
    """
    many = len(costs)
    rows = []
    for place, (factors, goal) in enumerate(at_least + equal):
        slack = [0] * len(at_least)
        if place < len(at_least):
            slack[place] = -1
        row = [Fraction(x) for x in list(factors) + slack] + [Fraction(goal)]
        rows.append([-x for x in row] if goal < 0 else row)
    width = many + len(at_least)
    table = []
    for place, row in enumerate(rows):
        helpers = [Fraction(int(k == place)) for k in range(len(rows))]
        table.append(row[:-1] + helpers + row[-1:])
    basis = [width + k for k in range(len(rows))]
    first = [Fraction(0)] * width + [Fraction(1)] * len(rows)
    if solve(table, basis, first, width + len(rows)) != 0:
        return None
    drop_helpers(table, basis, width)
    second = [Fraction(x) for x in costs] + [Fraction(0)] * (len(at_least) + len(rows))
    return solve(table, basis, second, width)


def drop_helpers(table, basis, width):
    for place in range(len(basis)):
        if basis[place] >= width:
            for column in range(width):
                if table[place][column] != 0:
                    pivot(table, basis, place, column)
                    break


def pivot(table, basis, place, column):
    factor = table[place][column]
    table[place] = [x / factor for x in table[place]]
    for other in range(len(table)):
        times = table[other][column]
        if other != place and times != 0:
            table[other] = [x - times * y for x, y in zip(table[other], table[place])]
    basis[place] = column


def solve(table, basis, costs, width):
    """Pivots until the costs are least, entering only columns below width; their least value."""
    while True:
        paid = [costs[k] for k in basis]
        entering = None
        for column in range(width):
            if column not in basis and costs[column] < sum(c * row[column] for c, row in zip(paid, table) if c):
                entering = column
                break
        if entering is None:
            return sum(c * row[-1] for c, row in zip(paid, table))
        able = [(row[-1] / row[entering], basis[k], k) for k, row in enumerate(table) if row[entering] > 0]
        if not able:
            raise ValueError("no least value")
        pivot(table, basis, min(able)[2], entering)
