"""Groups of things that are told by their places."""


def groups_of(many):
    """The list of all groups of so many things, each an ascending tuple of places, the empty one first."""
    groups = [()]
    for place in range(many):
        groups = groups + [group + (place,) for group in groups]
    return groups
