"""Journals: what was noted of a street while it was built."""

from onlygroups.checks import is_number, is_number_below
from onlygroups.errors import NoNote, Noted
from onlygroups.rows import WORDS, groups, houses, is_row


def is_value(sort, thing):
    """Whether a NOTE of this sort can have thing as its value."""
    if sort == "groups":
        return is_number(thing) and thing >= 1
    return sort == "house" and thing in WORDS


def is_note(thing):
    """Whether thing is a NOTE of any time from 0."""
    if not isinstance(thing, tuple) or len(thing) != 3:
        return False
    time, sort, value = thing
    return is_number(time) and time >= 0 and is_value(sort, value)


def is_notes(times, thing):
    """Whether thing is the NOTEs of a JOURNAL with so many times."""
    if not isinstance(thing, tuple):
        return False
    if not all([is_note(note) and note[0] < times for note in thing]):
        return False
    # The value is left out: two NOTEs of one sort for one time are refused, whatever they say.
    return all([early[:2] < late[:2] for early, late in zip(thing, thing[1:])])


def is_journal(thing):
    """Whether thing is a JOURNAL."""
    if not isinstance(thing, tuple) or len(thing) != 3:
        return False
    plots, times, notes = thing
    if not is_number(plots) or not is_number_below(times, plots + 1):
        return False
    return is_notes(times, notes)


def true_value(row, time, sort):
    """The value that a NOTE of this sort for this time must have to be true for a ROW."""
    if sort == "groups":
        return groups(row)[time]
    return houses(row)[time]


def untrue_times(notes, row):
    """The times of the NOTEs that are not true for a ROW, as the NOTEs ascend."""
    return [time for time, sort, value in notes if true_value(row, time, sort) != value]


def is_order(journal, thing):
    """Whether thing is an ORDER of a JOURNAL."""
    plots, times, notes = journal
    return is_row(plots, thing) and len(thing) == times and not untrue_times(notes, thing)


def journal_of(plots, row):
    """The JOURNAL with the numbers of groups of a ROW after all times, but no other NOTE."""
    notes = [(time, "groups", many) for time, many in enumerate(groups(row))]
    return (plots, len(row), tuple(notes))


def notes_of(journal):
    """The list of the NOTEs of a JOURNAL, each a tuple, also if lists stand for them."""
    return [tuple(note) for note in journal[2]]


def with_note(journal, note):
    """The JOURNAL with one more NOTE."""
    notes = notes_of(journal)
    for there in notes:
        if there[:2] == tuple(note[:2]):
            raise Noted(there)
    return (journal[0], journal[1], tuple(sorted([*notes, tuple(note)])))


def without_note(journal, note):
    """The JOURNAL without a NOTE."""
    notes = notes_of(journal)
    gone = tuple(note)
    if gone not in notes:
        raise NoNote(gone)
    return (journal[0], journal[1], tuple([there for there in notes if there != gone]))
