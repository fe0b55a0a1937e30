"""The least costs of steps, one behind another."""


def best_ways(many, step):
    """The list, for the places from 0 to many, of the least cost and the joined tuples of the steps that lead there.

    step(place, goal) is the pair of the cost and the tuple of the step from a place to a later one, None if there is
    none. Likewise None stands for a place where no steps from 0 on lead to.
    """
    ways = [(0, ())]
    for goal in range(1, many + 1):
        found = []
        for place in range(goal):
            taken = step(place, goal)
            if ways[place] is not None and taken is not None:
                found.append((ways[place][0] + taken[0], ways[place][1] + taken[1]))
        ways.append(min(found, default=None))
    return ways
