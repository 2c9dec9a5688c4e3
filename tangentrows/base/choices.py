"""Choices of some items of several."""


def choices(items, many):
    """The list of all tuples of so many items of a tuple, each in the order of the items, and in their order."""
    if many == 0:
        return [()]
    found = []
    for at in range(len(items) - many + 1):
        for others in choices(items[at + 1:], many - 1):
            found.append((items[at], *others))
    return found
