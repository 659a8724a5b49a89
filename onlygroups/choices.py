"""Choices: a row as one independent choice for each house, and the gaps between the groups at last."""

from onlygroups.checks import is_number, is_number_below
from onlygroups.errors import NoChoice, NoTime
from onlygroups.rows import WORDS, houses

# By how much a house with this word changes the number of groups.
STEPS = {"new": 1, "beside": 0, "between": -1}


def many_choices(word, many):
    """How many CHOICEs with this word there are for a house that finds so many groups."""
    if word == "new":
        return many + 1
    if word == "beside":
        return 2 * many
    return max(many - 1, 0)


def is_choice(many, thing):
    """Whether thing is a CHOICE for a house that finds so many groups."""
    if not isinstance(thing, tuple) or len(thing) != 2:
        return False
    word, number = thing
    return word in WORDS and is_number_below(number, many_choices(word, many))


def is_choices(thing):
    """Whether thing is CHOICES."""
    if not isinstance(thing, tuple):
        return False
    many = 0
    for part in thing:
        if not is_choice(many, part):
            return False
        many += STEPS[part[0]]
    return True


def groups_after(words):
    """How many groups there are after houses with these words."""
    return sum([STEPS[word] for word in words])


def is_gaps(choices, thing):
    """Whether thing is GAPS for the groups after these CHOICES."""
    many = groups_after([word for word, number in choices])
    if not isinstance(thing, tuple) or len(thing) != many + 1:
        return False
    if not all([is_number(gap) and gap >= 0 for gap in thing]):
        return False
    return all([gap >= 1 for gap in thing[1:-1]])


def groups_left_of(built, plot):
    """How many groups of the plots that are the keys of built stand left of an empty plot."""
    return len([last for last in built if last < plot and last + 1 not in built])


def number_of_choice(built, plot, word):
    """The number in the CHOICE of a house with this word that is added to the plots of built."""
    left = groups_left_of(built, plot)
    if word == "new":
        return left
    if word == "between":
        return left - 1
    if plot - 1 in built:
        return 2 * (left - 1) + 1
    return 2 * left


def choices_of(row):
    """The CHOICES of a ROW."""
    found = []
    built = {}
    for plot, word in zip(row, houses(row)):
        found.append((word, number_of_choice(built, plot, word)))
        built[plot] = True
    return tuple(found)


def gaps_of(plots, row):
    """The GAPS of a ROW on so many plots."""
    built = sorted(row)
    if not built:
        return (plots,)
    steps = [right - left for left, right in zip(built, built[1:])]
    inner = [step - 1 for step in steps if step > 1]
    return (built[0], *inner, plots - 1 - built[-1])


def times_in_groups(choices):
    """The groups after all CHOICES, from the left, each as the list of the times of its houses, from the left."""
    standing = []
    for time, (word, number) in enumerate(choices):
        if word == "new":
            standing.insert(number, [time])
        elif word == "between":
            standing[number:number + 2] = [standing[number] + [time] + standing[number + 1]]
        elif number % 2 == 0:
            standing[number // 2].insert(0, time)
        else:
            standing[number // 2].append(time)
    return standing


def row_of(choices, gaps):
    """The only ROW with these CHOICES and GAPS."""
    row = [0] * len(choices)
    plot = gaps[0]
    for times, gap in zip(times_in_groups(choices), gaps[1:]):
        for time in times:
            row[time] = plot
            plot += 1
        plot += gap
    return tuple(row)


def changed(plots, row, time, number):
    """The ROW with the same GAPS and CHOICES, but with this number in the CHOICE of the time."""
    if not 0 <= time < len(row):
        raise NoTime(time)
    words = houses(row)
    if not 0 <= number < many_choices(words[time], groups_after(words[:time])):
        raise NoChoice(number)
    choices = list(choices_of(row))
    choices[time] = (words[time], number)
    return row_of(choices, gaps_of(plots, row))
