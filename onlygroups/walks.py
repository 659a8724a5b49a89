"""Walks: the numbers of groups that the orders of a journal have after all times."""

from onlygroups.choices import STEPS, many_choices
from onlygroups.numbers import all_starts, all_ways, blocks_then, counts_after, folded_ways, noted_values
from onlygroups.numbers import ways_to_choose, words_then
from onlygroups.verdicts import check_possible


def orders_by_groups(journal):
    """The list, for each time, of the list of how many ORDERs have each number of groups after it, from 0."""
    starts = all_starts(journal)[1:]
    ways = all_ways(journal)[1:]
    return [[start * way for start, way in zip(before, after)] for before, after in zip(starts, ways)]


def possible_groups(journal):
    """The list, for each time, of the ascending list of the numbers of groups that some ORDER has after it."""
    check_possible(journal)
    return [[many for many, orders in enumerate(row) if orders > 0] for row in orders_by_groups(journal)]


def one_way(word, many):
    """How many steps of a WALK a house with this word makes from so many groups."""
    return 1


def count_walks(journal):
    """How many WALKs there are."""
    check_possible(journal)
    plots, times, notes = journal
    noted = noted_values(notes)
    counts = [1]
    for time in range(times):
        counts = counts_after(noted, counts, time, one_way)
    # More groups have no room.
    return sum(counts[:plots - times + 2])


def ways_of_step(noted, time, many, after):
    """How many CHOICEs of the house of the time lead from so many groups to so many after it."""
    words = [word for word in words_then(noted, time, many) if many + STEPS[word] == after]
    return sum([many_choices(word, many) for word in words])


def orders_with(journal, walk):
    """How many ORDERs have these numbers of groups."""
    check_possible(journal)
    plots, times, notes = journal
    noted = noted_values(notes)
    orders = 1
    many = 0
    for time, after in enumerate(walk):
        orders *= ways_of_step(noted, time, many, after)
        # At once: the numbers of what is no WALK may be too great to go on with.
        if orders == 0:
            return 0
        many = after
    return orders * ways_to_choose(many, plots - times + 1)


def greatest(parts):
    """The greatest of some numbers from 0, 0 if there are none."""
    return max(parts, default=0)


def likeliest(journal):
    """The pair of the WALK with the most ORDERs, of several the first, and their number."""
    check_possible(journal)
    noted = noted_values(journal[2])
    most = folded_ways(journal, greatest)
    walk = []
    many = 0
    for time in range(journal[1]):
        blocks = blocks_then(noted, most[time + 1], time, many)
        many = min([many + STEPS[word] for word, choices, block in blocks if choices * block == most[time][many]])
        walk.append(many)
    return (tuple(walk), most[0][0])
