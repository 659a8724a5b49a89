"""Chances: how likely numbers of groups, kinds of houses, plots, and two houses in one group are."""

from onlygroups.choices import STEPS, many_choices
from onlygroups.errors import NoTime
from onlygroups.numbers import all_starts, all_ways, blocks_then, count_orders, counts_after, noted_values
from onlygroups.numbers import ways_to_choose, words_then
from onlygroups.rows import WORDS
from onlygroups.verdicts import check_possible
from onlygroups.walks import orders_by_groups

# How many groups on the left and on the right of its place a house with this word touches.
TOUCHED = {"new": ((0, 0),), "beside": ((1, 0), (0, 1)), "between": ((1, 1),)}


def fraction(part, whole):
    """The FRACTION part of the whole; the part is from 0, the whole from 1."""
    divisor, rest = whole, part
    while rest:
        divisor, rest = rest, divisor % rest
    return (part // divisor, whole // divisor)


def check_time(journal, time):
    """Raises NoTime if the JOURNAL has no such time."""
    if not 0 <= time < journal[1]:
        raise NoTime(time)


def group_chances(journal, time):
    """The ascending list of the pairs of a number of groups after the time and its FRACTION."""
    check_possible(journal)
    check_time(journal, time)
    found = orders_by_groups(journal)[time]
    return [(many, fraction(orders, sum(found))) for many, orders in enumerate(found) if orders > 0]


def mean_groups(journal, time):
    """The average number of groups after the time, a FRACTION."""
    check_possible(journal)
    check_time(journal, time)
    found = orders_by_groups(journal)[time]
    return fraction(sum([many * orders for many, orders in enumerate(found)]), sum(found))


def house_chances(journal, time):
    """The list of the FRACTIONs that the house of the time is new, beside, between."""
    check_possible(journal)
    check_time(journal, time)
    noted = noted_values(journal[2])
    ways = all_ways(journal)
    orders = {word: 0 for word in WORDS}
    for many, start in enumerate(all_starts(journal)[time]):
        for word, choices, block in blocks_then(noted, ways[time + 1], time, many):
            orders[word] += start * choices * block
    return [fraction(orders[word], ways[0][0]) for word in WORDS]


def add_ways(found, place, ways):
    """Adds to the ways that lead to a place; one that no way leads to is left out."""
    if ways > 0:
        found[place] = found.get(place, 0) + ways


def ways_on_side(word, many, own):
    """How many CHOICEs with this word a house has on one side, with so many groups there.

    own is 0 on a side of an empty place, 1 on a side of a house: the group of that house can be touched, too.
    """
    if word == "new":
        return many + 1
    if word == "beside":
        return 2 * many + own
    return max(many - 1 + own, 0)


def places_after(noted, places, time, own):
    """The ways that lead to each place after the house of the time, which is built left or right of it.

    A place is a triple: the groups on its left, those on its right, and the houses on its left. If it is that of a
    house, own is 1, and the group of that house counts for neither side; if it is empty as yet, own is 0.
    """
    found = {}
    for (left, right, houses), ways in places.items():
        for word in words_then(noted, time, left + right + own):
            step = STEPS[word]
            add_ways(found, (left + step, right, houses + 1), ways * ways_on_side(word, left, own))
            add_ways(found, (left, right + step, houses), ways * ways_on_side(word, right, own))
    return found


def places_built_on(noted, places, time):
    """The ways that lead to each place if it is the one on which the house of the time is built."""
    found = {}
    for (left, right, houses), ways in places.items():
        for word in words_then(noted, time, left + right):
            for on_left, on_right in TOUCHED[word]:
                if on_left <= left and on_right <= right:
                    add_ways(found, (left - on_left, right - on_right, houses), ways)
    return found


def places_of_house(journal, time):
    """The ways that lead, after all houses, to each place of the house of the time."""
    noted = noted_values(journal[2])
    places = {(0, 0, 0): 1}
    for early in range(time):
        places = places_after(noted, places, early, 0)
    places = places_built_on(noted, places, time)
    for late in range(time + 1, journal[1]):
        places = places_after(noted, places, late, 1)
    return places


def plot_chances(journal, time):
    """The list of the FRACTIONs that the house of the time stands on each plot."""
    check_possible(journal)
    check_time(journal, time)
    plots = journal[0]
    empty = plots - journal[1]
    orders = [0] * plots
    for (left, right, houses), ways in places_of_house(journal, time).items():
        # The GAPS on both sides, with so many of the empty plots on the left.
        for before in range(empty + 1):
            gaps = ways_to_choose(left, before) * ways_to_choose(right, empty - before)
            orders[houses + before] += ways * gaps
    return [fraction(part, sum(orders)) for part in orders]


def marking_ways(word, many):
    """In how many ways a house with this word comes to stand in a certain one of the groups after it."""
    return 2 if word == "beside" else 1


def ways_beside_marks(word, many, marks):
    """In how many ways a house with this word that finds so many groups leaves the marks in certain groups.

    These are so many different ones of the groups after it. A new house is none of them. A house between makes any
    group out of two; if it makes one of these, the mark was in either of the two.
    """
    if word == "new":
        return many + 1 - marks
    if word == "between":
        return many - 1 + marks
    return many_choices(word, many)


def apart_orders(journal, one, other):
    """How many ORDERs have the houses of two times in different groups after all houses.

    The groups of both are marked. The notes do not tell one group from another, so the marks are in any two different
    groups in as many ways; those for two certain groups are counted, and multiplied by how many such pairs there are.
    (One group alone has no such pair: what is counted for it is multiplied by 0 at the next new house or at the end.)
    """
    plots, times, notes = journal
    noted = noted_values(notes)
    counts = [1]
    marks = 0
    for time in range(times):
        if time in (one, other):
            counts = counts_after(noted, counts, time, marking_ways)
            marks += 1
        else:
            counts = counts_after(noted, counts, time, lambda word, many: ways_beside_marks(word, many, marks))
    ends = [many * (many - 1) * ways_to_choose(many, plots - times + 1) for many in range(times + 1)]
    return sum([count * end for count, end in zip(counts, ends)])


def together_chance(journal, one, other):
    """The FRACTION that the houses of two times stand in one group after all houses are built."""
    check_possible(journal)
    check_time(journal, one)
    check_time(journal, other)
    orders = count_orders(journal)
    return fraction(orders - apart_orders(journal, one, other), orders)
