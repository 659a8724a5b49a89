"""Rows to test with, and plain counts over lines of plots to compare the program with.

A street is drawn as a text, "#" for a house and "." for an empty plot, and its runs are read off the text.
"""

import functools
import itertools
import random
import re


def rows_on(plots):
    """All rows on so many plots."""
    for many in range(plots + 1):
        yield from itertools.permutations(range(plots), many)


def mixed_rows(plots, tries):
    """Some rows on so many plots, the same ones in every run; no house and the full street are among them."""
    state = plots
    for attempt in range(tries):
        left = list(range(plots))
        row = []
        for step in range(plots * attempt // max(tries - 1, 1)):
            state = (state * 1103515245 + 12345) & 0x7FFFFFFF
            row.append(left.pop((state >> 8) % len(left)))
        yield tuple(row)


def all_streets():
    """Pairs of plots and row: every row on streets of 0 to 5 plots, some on streets of 6 to 16."""
    for plots in range(6):
        for row in rows_on(plots):
            yield plots, row
    for plots in range(6, 17):
        for row in mixed_rows(plots, 25):
            yield plots, row
        yield plots, tuple(range(plots))
        yield plots, tuple(reversed(range(plots)))
        yield plots, tuple(range(0, plots, 2)) + tuple(range(1, plots, 2))


def drawn(plots, row):
    return "".join("#" if plot in row else "." for plot in range(plots))


def runs(plots, row):
    """The pairs of the first and the last plot of each group."""
    return [(found.start(), found.end() - 1) for found in re.finditer("#+", drawn(plots, row))]


def plain_groups(plots, row):
    return tuple(len(runs(plots, row[:time + 1])) for time in range(len(row)))


def plain_houses(plots, row):
    counts = (0,) + plain_groups(plots, row)
    return tuple({1: "new", 0: "beside", -1: "between"}[late - early] for early, late in zip(counts, counts[1:]))


def plain_choice(plots, before, plot):
    """The choice of a house on the plot after the row before."""
    standing = runs(plots, before)
    on_left = [at for at, (first, last) in enumerate(standing) if last == plot - 1]
    on_right = [at for at, (first, last) in enumerate(standing) if first == plot + 1]
    if on_left and on_right:
        return ("between", on_left[0])
    if on_left:
        return ("beside", 2 * on_left[0] + 1)
    if on_right:
        return ("beside", 2 * on_right[0])
    return ("new", len([last for first, last in standing if last < plot]))


def plain_choices(plots, row):
    return tuple(plain_choice(plots, row[:time], plot) for time, plot in enumerate(row))


def plain_gaps(plots, row):
    return tuple(len(empty) for empty in re.split("#+", drawn(plots, row)))


def choices_for(many):
    """All choices of a house that finds so many groups."""
    found = [("new", number) for number in range(0, many + 1)]
    found += [("beside", number) for number in range(0, 2 * many)]
    found += [("between", number) for number in range(0, many - 1)]
    return found


def all_choices(times):
    """Pairs of CHOICES for so many times and the number of groups after them."""
    if times == 0:
        yield (), 0
        return
    for earlier, many in all_choices(times - 1):
        for choice in choices_for(many):
            yield earlier + (choice,), many + {"new": 1, "beside": 0, "between": -1}[choice[0]]


def all_gaps(many, empty):
    """All gaps for so many groups with so many empty plots."""
    for gaps in itertools.product(range(empty + 1), repeat=many + 1):
        if sum(gaps) == empty and all(gap >= 1 for gap in gaps[1:-1]):
            yield gaps


def plain_notes(plots, row):
    """All notes that are true for a row, ascending."""
    notes = [(time, "groups", many) for time, many in enumerate(plain_groups(plots, row))]
    notes += [(time, "house", word) for time, word in enumerate(plain_houses(plots, row))]
    return sorted(notes)


def sorted_rows(plots, times):
    """The rows of so many houses, ascending by the pairs of their choices and gaps, each with its true notes."""
    rows = itertools.permutations(range(plots), times)
    ascending = sorted(rows, key=lambda row: (plain_choices(plots, row), plain_gaps(plots, row)))
    return [(row, set(plain_notes(plots, row))) for row in ascending]


def any_notes(source, times):
    """Notes that need not be true."""
    notes = []
    for time in range(times):
        if source.randrange(3) == 0:
            notes.append((time, "groups", source.choice([1, 1, 2, 2, 3, times, times + 1, 10 ** 30])))
        if source.randrange(3) == 0:
            notes.append((time, "house", source.choice(["new", "beside", "between"])))
    return tuple(notes)


def true_notes(source, plots, row):
    """Some of the notes that are true for a row."""
    share = source.choice([1, 2, 4])
    return tuple(note for note in plain_notes(plots, row) if source.randrange(4) < share)


def some_journals(plots, times, tries):
    """Journals with no, with all, with true and with any notes, the same ones in every run."""
    source = random.Random(plots * 100 + times)
    yield (plots, times, ())
    for attempt in range(tries):
        row = tuple(source.sample(range(plots), times))
        yield (plots, times, tuple(plain_notes(plots, row)))
        yield (plots, times, true_notes(source, plots, row))
        yield (plots, times, any_notes(source, times))


def small_journals():
    """Pairs of a journal on 0 to 5 plots and the rows of its times, with their true notes, as they ascend."""
    for plots in range(6):
        for times in range(plots + 1):
            rows = sorted_rows(plots, times)
            for journal in some_journals(plots, times, 15):
                yield journal, rows


def orders_among(rows, journal):
    """The rows that make all notes of the journal true."""
    return [row for row, true in rows if true.issuperset(journal[2])]


def small_possible_journals():
    """Pairs of a journal on 0 to 5 plots that has orders, and the list of these."""
    for journal, rows in small_journals():
        orders = orders_among(rows, journal)
        if orders:
            yield journal, orders


@functools.lru_cache(maxsize=None)
def profiles(times):
    """The numbers of groups of all rows of so many houses, on a street with room for all as groups of their own.

    Each is in a pair with the true notes.
    """
    plots = 2 * times
    rows = {plain_groups(plots, row): row for row in itertools.permutations(range(plots), times)}
    return [(counts, frozenset(plain_notes(plots, row))) for counts, row in sorted(rows.items())]


def plain_evidence(journal, is_there_an_order):
    """The evidence, from lists of rows on a long street."""
    plots, times, notes = journal
    if is_there_an_order:
        return None
    for time in range(times):
        early = [note for note in notes if note[0] <= time]
        if not any(true.issuperset(early) for counts, true in profiles(time + 1)):
            return ("stuck", time)
    return ("room", min(counts[-1] for counts, true in profiles(times) if true.issuperset(notes)))


def doubtful_notes(source, times):
    """Notes that are true for a row on a long street, but for at most two of another value."""
    row = tuple(source.sample(range(2 * times), times))
    notes = list(true_notes(source, 2 * times, row))
    for time, sort, value in any_notes(source, times)[::-1][:source.randrange(3)]:
        notes = [note for note in notes if note[:2] != (time, sort)] + [(time, sort, value)]
    return tuple(sorted(notes))


def doubtful_journals():
    """Pairs of a journal on 0 to 5 plots and the rows of its times; many of them have no order, for late reasons."""
    source = random.Random(11)
    for plots in range(6):
        for times in range(plots + 1):
            rows = sorted_rows(plots, times)
            for attempt in range(40):
                yield (plots, times, doubtful_notes(source, times)), rows


def impossible_journals():
    """Pairs of a journal without an order and its evidence."""
    yield (4, 3, ((0, "groups", 2),)), ("stuck", 0)
    yield (4, 3, ((2, "groups", 3),)), ("room", 3)
    yield (9, 3, ((1, "house", "between"),)), ("stuck", 1)
    yield (3, 3, ((1, "groups", 2), (2, "house", "new"))), ("room", 3)
    yield (16, 16, ((7, "groups", 9),)), ("stuck", 7)
    yield (16, 16, ((8, "groups", 9),)), ("room", 2)
    yield (1, 1, ((0, "groups", 10 ** 5000),)), ("stuck", 0)
