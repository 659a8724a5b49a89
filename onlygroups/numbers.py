"""Numbers: the orders of a journal, counted and numbered without going through them."""

from onlygroups.choices import STEPS, choices_of, gaps_of, many_choices, row_of
from onlygroups.errors import Misfit, NoNumber, TooMany
from onlygroups.journals import untrue_times
from onlygroups.most import MOST

# In the order in which CHOICES ascend.
ASCENDING_WORDS = ("beside", "between", "new")


def ways_to_choose(many, things):
    """In how many ways so many of the things can be chosen."""
    ways = 1
    for chosen in range(many):
        ways = ways * (things - chosen) // (chosen + 1)
    return ways


def noted_values(notes):
    """The values of the NOTEs by their times and sorts."""
    return {(time, sort): value for time, sort, value in notes}


def is_word_then(noted, time, many, word):
    """Whether the house of the time can have this word if it finds so many groups, by the NOTEs of this time."""
    after = many + STEPS[word]
    if many_choices(word, many) == 0:
        return False
    # What was not noted agrees with anything.
    return noted.get((time, "house"), word) == word and noted.get((time, "groups"), after) == after


def words_then(noted, time, many):
    """The words that the house of the time can have if it finds so many groups, as they ascend."""
    return [word for word in ASCENDING_WORDS if is_word_then(noted, time, many, word)]


def blocks_then(noted, ways, time, many):
    """The words that the house of the time can have if it finds so many groups, as they ascend.

    Each is in a triple with how many CHOICEs have it, and how many ways lead on from each of these.
    """
    words = words_then(noted, time, many)
    return [(word, many_choices(word, many), ways[many + STEPS[word]]) for word in words]


def folded_ways(journal, fold):
    """The list, for each time and for the end, of the list of the ways that lead on from each number of groups then.

    A way is the CHOICES of the houses from that time on and the GAPS. The function fold makes one number of the list
    of how many ways there are with each word.
    """
    plots, times, notes = journal
    noted = noted_values(notes)
    ways = [ways_to_choose(many, plots - times + 1) for many in range(times + 1)]
    found = [ways]
    for time in reversed(range(times)):
        rows = [blocks_then(noted, ways, time, many) for many in range(time + 1)]
        ways = [fold([choices * block for word, choices, block in blocks]) for blocks in rows]
        found.append(ways)
    return found[::-1]


def in_all(parts):
    """The sum, as a function of the package: one of Python's own is not passed on."""
    return sum(parts)


def all_ways(journal):
    """The list, for each time and for the end, of the list of how many ways lead on from each number of groups then."""
    return folded_ways(journal, in_all)


def counts_after(noted, counts, time, ways_with):
    """The counts of what leads to each number of groups after the house of the time, from those before it.

    The function ways_with tells, of a word and a number of groups, in how many ways such a house is counted.
    """
    after = [0] * (len(counts) + 1)
    for many, count in enumerate(counts):
        for word in words_then(noted, time, many):
            after[many + STEPS[word]] += count * ways_with(word, many)
    return after


def all_starts(journal):
    """The list, for each time and for the end, of the list of how many CHOICES lead to each number of groups then."""
    noted = noted_values(journal[2])
    starts = [1]
    found = [starts]
    for time in range(journal[1]):
        starts = counts_after(noted, starts, time, many_choices)
        found.append(starts)
    return found


def count_orders(journal):
    """How many ORDERs a JOURNAL has."""
    return all_ways(journal)[0][0]


def smaller_gaps(least, empty, many, gap):
    """How many GAPS, of so many empty plots and groups, begin with at least the least, but less than this gap."""
    return ways_to_choose(many, empty + 1 - least) - ways_to_choose(many, empty + 1 - gap)


def gap_at(least, empty, many, number):
    """The first gap of the GAPS with this number among those that begin with at least the least."""
    # By halving, not gap by gap: a street that was read from a text may have plots up to a number of ten digits.
    low = least
    high = empty + 1 - many
    while low < high:
        middle = (low + high + 1) // 2
        if smaller_gaps(least, empty, many, middle) <= number:
            low = middle
        else:
            high = middle - 1
    return low


def gaps_at(empty, many, number):
    """The GAPS for so many groups and empty plots with this number, as they ascend."""
    gaps = []
    least = 0
    for left in range(many, 0, -1):
        gap = gap_at(least, empty, left, number)
        number -= smaller_gaps(least, empty, left, gap)
        gaps.append(gap)
        empty -= gap
        least = 1
    return (*gaps, empty)


def number_of_gaps(gaps):
    """The number of these GAPS among those for as many groups and empty plots, as they ascend."""
    number = 0
    empty = sum(gaps)
    many = len(gaps) - 1
    for at, gap in enumerate(gaps[:-1]):
        number += smaller_gaps(min(at, 1), empty, many - at, gap)
        empty -= gap
    return number


def choice_at(blocks, number):
    """The CHOICE in whose ways the number lies, and the number among these."""
    for word, choices, block in blocks:
        if number < choices * block:
            break
        number -= choices * block
    return (word, number // block), number % block


def ways_before(blocks, choice):
    """How many ways begin with a lesser CHOICE."""
    before = 0
    for word, choices, block in blocks:
        if word == choice[0]:
            break
        before += choices * block
    return before + choice[1] * block


def numbered_order(journal, ways, number):
    """The ORDER with a number that there is."""
    plots, times, notes = journal
    noted = noted_values(notes)
    choices = []
    many = 0
    for time in range(times):
        choice, number = choice_at(blocks_then(noted, ways[time + 1], time, many), number)
        choices.append(choice)
        many += STEPS[choice[0]]
    return row_of(choices, gaps_at(plots - times, many, number))


def order_at(journal, number):
    """The ORDER with that number."""
    ways = all_ways(journal)
    if not 0 <= number < ways[0][0]:
        raise NoNumber(number)
    return numbered_order(journal, ways, number)


def number_of(journal, order):
    """The number of an ORDER."""
    plots, times, notes = journal
    untrue = untrue_times(notes, order)
    if untrue:
        raise Misfit(untrue[0])
    noted = noted_values(notes)
    ways = all_ways(journal)
    number = number_of_gaps(gaps_of(plots, order))
    many = 0
    for time, choice in enumerate(choices_of(order)):
        number += ways_before(blocks_then(noted, ways[time + 1], time, many), choice)
        many += STEPS[choice[0]]
    return number


def all_orders(journal):
    """The list of all ORDERs, in the order of their numbers."""
    ways = all_ways(journal)
    many = ways[0][0]
    if many > MOST:
        raise TooMany(many)
    return [numbered_order(journal, ways, number) for number in range(many)]
