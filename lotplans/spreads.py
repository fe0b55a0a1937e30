"""How the amounts of a point that breaks no row are spread over the demands."""

from lotplans.ratios import ONE, ZERO, divided, is_less, minus, multiplied, times, total


def spread(demands, point):
    """The table whose item [start][goal] is the part of the demand of goal that is made in start.

    No part is more than the mark of its start, and from goal to goal the parts of a start do not rise. Those amounts
    are used less that would be used up soonest. So in whatever time is to come as much can be used as there can be at
    all, and since the point breaks no row, that is enough for each demand.
    """
    left = list(point[0])
    most = list(point[1])
    table = [[ZERO] * len(demands) for _ in demands]
    for goal, demand in enumerate(demands):
        rates = level_rates(left[:goal + 1], most[:goal + 1])
        for start, rate in enumerate(rates):
            table[start][goal] = rate
            left[start] = minus(left[start], times(rate, demand))
            most[start] = rate
    return table


def level_rates(left, most):
    """The rates that add up to 1, each the most that is allowed or such that what is left lasts one common time.

    To begin with all last this time; a rate that would be more than is allowed is set to that, until none would.
    """
    full = [False] * len(left)
    lasting = common_time(left, most, full)
    higher = higher_places(left, most, full, lasting)
    while higher:
        full = [done or place in higher for place, done in enumerate(full)]
        lasting = common_time(left, most, full)
        higher = higher_places(left, most, full, lasting)
    return [most[place] if done else divided(left[place], lasting) for place, done in enumerate(full)]


def common_time(left, most, full):
    """How long all that is left lasts, but for the places that are full, at what their rates leave of 1."""
    amounts = [amount for amount, done in zip(left, full) if not done]
    taken = [rate for rate, done in zip(most, full) if done]
    return divided(total(amounts), minus(ONE, total(taken)))


def higher_places(left, most, full, lasting):
    """The places that are not full whose rates would be more than is allowed."""
    return [place for place, done in enumerate(full)
            if not done and is_less(multiplied(most[place], lasting), left[place])]
