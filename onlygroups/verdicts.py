"""Verdicts: whether there is an order, and the evidence if there is none.

The numbers of groups that rows can have after a time, whatever the street, have no holes: after any house they are
again all the numbers from a least to a greatest one. So a pair (low, high) stands for them; there are none if low is
greater than high.
"""

from onlygroups.choices import STEPS
from onlygroups.errors import Impossible
from onlygroups.numbers import noted_values, order_at

# How many groups a house with this word needs to find.
LEAST_FOUND = {"new": 0, "beside": 1, "between": 2}


def after_free_houses(low, high, many):
    """The least and the greatest number of groups after so many houses of which nothing was noted."""
    if many == 0:
        return low, high
    return max(low - many, 1), high + many


def after_noted_house(low, high, word):
    """The least and the greatest number of groups after a house with this word; None if its word was not noted."""
    if word is None:
        return after_free_houses(low, high, 1)
    return max(low, LEAST_FOUND[word]) + STEPS[word], high + STEPS[word]


def within_note(low, high, value):
    """The least and the greatest number of groups that agree with the noted one; None if it was not noted."""
    if value is None:
        return low, high
    return max(low, value), min(high, value)


def evidence(journal):
    """None if there is an ORDER, otherwise what shows that there is none."""
    plots, times, notes = journal
    noted = noted_values(notes)
    low, high, built = 0, 0, 0
    # From noted time to noted time: a journal that was read from a text may have times up to a number of ten digits.
    for time in sorted(set([note[0] for note in notes])):
        low, high = after_free_houses(low, high, time - built)
        low, high = after_noted_house(low, high, noted.get((time, "house")))
        low, high = within_note(low, high, noted.get((time, "groups")))
        if low > high:
            return ("stuck", time)
        built = time + 1
    low, high = after_free_houses(low, high, times - built)
    if low > plots - times + 1:
        return ("room", low)
    return None


def is_possible(journal):
    """Whether there is an ORDER."""
    return evidence(journal) is None


def check_possible(journal):
    """Raises Impossible if there is no ORDER."""
    why = evidence(journal)
    if why is not None:
        raise Impossible(why)


def first_order(journal):
    """The ORDER with the number 0."""
    check_possible(journal)
    return order_at(journal, 0)
