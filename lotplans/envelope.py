"""Least costs of the periods from each one on, found by lines.

Let each unit be paid as if it were kept to the end of all, and each demand get back what is spared as it takes its
units away. The lot from one period up to another one then costs the setup and, for each unit, a price that belongs
to the first period alone. The least cost from a period on is therefore read off, at its price, the lowest one of
lines, one for each later period; what the demands get back is taken off at the end.
"""

from lotplans.checks import check_problem
from lotplans.lots import kept_to_end


def envelope_costs(problem):
    """The tuple of the least costs of the periods from 0, 1, .. on alone."""
    check_problem(problem)
    demands, setups, units, holdings = problem
    spared = kept_to_end(problem)
    # a line (slope, height) is worth height - slope * price
    lines = [(0, 0)]
    costs = [0]
    paid, wanted, back = 0, 0, 0
    for period in reversed(range(len(demands))):
        wanted += demands[period]
        back += demands[period] * spared[period]
        price = units[period] + spared[period]
        lot = setups[period] + price * wanted + lowest(lines, price)
        paid = lot if demands[period] > 0 else min(lot, paid)
        lines = with_line(lines, wanted, paid)
        costs.append(paid - back)
    return tuple(costs[::-1])


def worth(line, price):
    """What a line is worth at a price."""
    return line[1] - line[0] * price


def lowest(lines, price):
    """The least worth of the lines at a price; each line is the lowest one somewhere, by rising slopes."""
    low, high = 0, len(lines) - 1
    while low < high:
        middle = (low + high) // 2
        if worth(lines[middle], price) <= worth(lines[middle + 1], price):
            high = middle
        else:
            low = middle + 1
    return worth(lines[low], price)


def with_line(lines, slope, height):
    """The lines and one more that has at least their slopes, without those that it makes useless.

    If the last line has the same slope, the new one is not above it.
    """
    kept = list(lines)
    while len(kept) > 1 and is_useless(kept[-2], kept[-1], (slope, height)):
        kept.pop()
    return kept + [(slope, height)]


def is_useless(first, middle, last):
    """Whether, of three lines by rising slopes, the middle one is nowhere below both others."""
    return (last[1] - first[1]) * (middle[0] - first[0]) <= (middle[1] - first[1]) * (last[0] - first[0])
