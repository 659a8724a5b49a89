"""Rows and groups: the plots of a street in the order in which they were built on."""

from onlygroups.checks import is_number_below

# The index of a word is how many neighbouring plots had a house.
WORDS = ("new", "beside", "between")


def is_row(plots, thing):
    """Whether thing is a ROW on a street of so many plots."""
    if not isinstance(thing, tuple):
        return False
    if not all([is_number_below(plot, plots) for plot in thing]):
        return False
    return len(set(thing)) == len(thing)


def neighbours(row):
    """The list of how many neighbouring plots had a house when each house was built."""
    found = []
    built = {}
    for plot in row:
        found.append(built.get(plot - 1, 0) + built.get(plot + 1, 0))
        built[plot] = 1
    return found


def groups(row):
    """The tuple of the numbers of groups after each time."""
    after = []
    many = 0
    for beside in neighbours(row):
        # A house is a group of its own at first and joins each group that it touches.
        many += 1 - beside
        after.append(many)
    return tuple(after)


def houses(row):
    """The tuple of the words of all houses."""
    return tuple([WORDS[beside] for beside in neighbours(row)])


def mirrored(plots, row):
    """The ROW with the plots counted from the other end of the street."""
    return tuple([plots - 1 - plot for plot in row])
