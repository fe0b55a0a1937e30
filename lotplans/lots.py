"""What making, keeping and lots cost, for problems that are checked already."""


def unit_cost(problem, start, goal):
    """What making a unit in the period start and keeping it until goal costs."""
    return problem[2][start] + sum(problem[3][start:goal])


def part_of(problem, start, end):
    """The problem of the periods from start up to, but without, end alone."""
    return tuple([row[start:end] for row in problem])


def lot_row(problem, start):
    """The list of what the lots from start up to, but without, each period cost; 0 up to start itself."""
    demands, setups, units, holdings = problem
    costs = [0] * (start + 1)
    amount = 0
    paid = setups[start]
    each = units[start]
    for period in range(start, len(demands)):
        amount += demands[period]
        paid += demands[period] * each
        each += holdings[period]
        costs.append(paid if amount > 0 else 0)
    return costs


def lot_table(problem):
    """The list of the rows of lots from each period on."""
    return [lot_row(problem, start) for start in range(len(problem[0]))]


def kept_to_end(problem):
    """The list of what keeping a unit from each period on, behind the last one too, costs."""
    holdings = problem[3]
    return [sum(holdings[period:]) for period in range(len(holdings))]
