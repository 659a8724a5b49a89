import collections
import functools
import itertools
import math
import random
import unittest

from onlygroups.errors import Impossible
from onlygroups.journals import journal_of, with_note
from onlygroups.numbers import count_orders
from onlygroups.walks import count_walks, likeliest, orders_with, possible_groups
from tests.calls import as_lists, check_call, check_error, check_parameters
from tests.streets import doubtful_journals, impossible_journals, mixed_rows, orders_among, plain_evidence, plain_groups
from tests.streets import small_possible_journals, true_notes
from tests.things import HUGE

LANE = (5, 4, ((1, "groups", 2), (3, "groups", 1)))


def walks_of(plots, orders):
    """How many orders have each walk."""
    return collections.Counter(plain_groups(plots, order) for order in orders)


def first_of_most(counts):
    """The pair of the walk with the most orders, of several the first, and their number."""
    most = max(counts.values())
    return (min(walk for walk in counts if counts[walk] == most), most)


@functools.lru_cache(maxsize=None)
def long_walks():
    """How many orders each walk of sixteen houses on sixteen plots has, as a product along it."""
    counts = {}
    steps = [((1,), 1)]
    for time in range(1, 16):
        longer = []
        for walk, orders in steps:
            many = walk[-1]
            longer.append((walk + (many + 1,), orders * (many + 1)))
            longer.append((walk + (many,), orders * 2 * many))
            if many > 1:
                longer.append((walk + (many - 1,), orders * (many - 1)))
        # The houses that are left must join all groups.
        steps = [(walk, orders) for walk, orders in longer if walk[-1] <= 16 - time]
    for walk, orders in steps:
        counts[walk] = orders
    return counts


class WalkExamples(unittest.TestCase):

    def test_examples(self):
        self.assertEqual(
            (possible_groups(LANE), count_walks(LANE), orders_with(LANE, (1, 2, 1, 1)), likeliest(LANE)),
            ([[1], [2], [1, 2], [1]], 2, 8, ((1, 2, 2, 1), 16)))


class SmallStreetTests(unittest.TestCase):

    def test_parameters(self):
        for function in (possible_groups, count_walks, likeliest):
            check_parameters(self, function, ["journal"])
        check_parameters(self, orders_with, ["journal", "walk"])

    def test_against_all_orders(self):
        for journal, orders in small_possible_journals():
            counts = walks_of(journal[0], orders)
            after = [sorted({walk[time] for walk in counts}) for time in range(journal[1])]
            check_call(self, possible_groups, {"journal": journal}, after)
            check_call(self, count_walks, {"journal": journal}, len(counts))
            check_call(self, likeliest, {"journal": journal}, first_of_most(counts))

    def test_orders_with_each_tuple(self):
        for journal, orders in small_possible_journals():
            counts = walks_of(journal[0], orders)
            for walk in itertools.product((0, 1, 2, 3), repeat=journal[1]):
                self.assertEqual(orders_with(journal, walk), counts[walk], (journal, walk))
            for walk in counts:
                check_call(self, orders_with, {"journal": journal, "walk": walk}, counts[walk])

    def test_no_walk(self):
        for journal, orders in small_possible_journals():
            counts = walks_of(journal[0], orders)
            for walk in list(counts)[:3]:
                for time, wrong in itertools.product(range(len(walk)), (-HUGE, -1, 0, 7, HUGE)):
                    other = walk[:time] + (wrong,) + walk[time + 1:]
                    check_call(self, orders_with, {"journal": journal, "walk": other}, 0)

    def test_any_numbers(self):
        for numbers in ((0, 0, 0, 0), (-1, 0, 1, 1), (2, 2, 2, 1), (1, 2, 2, 2), (1, 1, 2, 1), (1, 2, 3, 1), (1, 2, 4, 1),
                        (HUGE, HUGE, HUGE, HUGE), (1, HUGE, HUGE, 1), (1, 2, 2, -HUGE), (1, 2, 2, HUGE)):
            check_call(self, orders_with, {"journal": LANE, "walk": numbers}, 0)

    def test_walk_without_room(self):
        check_call(self, orders_with, {"journal": (4, 3, ()), "walk": (1, 2, 3)}, 0)
        check_call(self, orders_with, {"journal": (5, 3, ()), "walk": (1, 2, 3)}, 6)

    def test_of_several_the_first(self):
        tied = 0
        for journal, orders in small_possible_journals():
            counts = walks_of(journal[0], orders)
            tied += list(counts.values()).count(max(counts.values())) > 1
        self.assertGreaterEqual(tied, 10)
        # On four plots as many pairs of plots are neighbours as are not.
        check_call(self, likeliest, {"journal": (4, 2, ())}, ((1, 1), 6))
        self.assertEqual((orders_with((4, 2, ()), (1, 1)), orders_with((4, 2, ()), (1, 2))), (6, 6))

    def test_no_house(self):
        for plots in range(17):
            journal = (plots, 0, ())
            check_call(self, possible_groups, {"journal": journal}, [])
            check_call(self, count_walks, {"journal": journal}, 1)
            check_call(self, orders_with, {"journal": journal, "walk": ()}, 1)
            check_call(self, likeliest, {"journal": journal}, ((), 1))


class ImpossibleTests(unittest.TestCase):

    def check(self, journal, expected):
        for function in (possible_groups, count_walks, likeliest):
            check_error(self, function, {"journal": journal}, Impossible, "evidence", expected)
        for wrong in (0, 1, HUGE):
            arguments = {"journal": journal, "walk": (wrong,) * journal[1]}
            check_error(self, orders_with, arguments, Impossible, "evidence", expected)

    def test_known_journals(self):
        for journal, expected in impossible_journals():
            self.check(journal, expected)

    def test_small_journals(self):
        for journal, rows in doubtful_journals():
            if not orders_among(rows, journal):
                self.check(journal, plain_evidence(journal, False))


class GreatStreetTests(unittest.TestCase):

    def test_sixteen_without_notes(self):
        counts = long_walks()
        journal = (16, 16, ())
        self.assertEqual(sum(counts.values()), math.factorial(16))
        check_call(self, count_walks, {"journal": journal}, len(counts))
        check_call(self, likeliest, {"journal": journal}, first_of_most(counts))
        after = [list(range(1, min(time + 1, 16 - time) + 1)) for time in range(16)]
        check_call(self, possible_groups, {"journal": journal}, after)
        for walk in list(counts)[::5000]:
            check_call(self, orders_with, {"journal": journal, "walk": walk}, counts[walk])

    def test_sixteen_with_some_notes(self):
        source = random.Random(9)
        for row in [tuple(source.sample(range(16), 16)) for attempt in range(3)]:
            walk = plain_groups(16, row)
            notes = tuple((time, "groups", walk[time]) for time in source.sample(range(16), 4))
            journal = (16, 16, tuple(sorted(notes)))
            counts = {walk: orders for walk, orders in long_walks().items()
                      if all(walk[time] == many for time, sort, many in notes)}
            self.assertEqual(count_orders(journal), sum(counts.values()))
            check_call(self, count_walks, {"journal": journal}, len(counts))
            check_call(self, likeliest, {"journal": journal}, first_of_most(counts))
            after = [sorted({walk[time] for walk in counts}) for time in range(16)]
            check_call(self, possible_groups, {"journal": journal}, after)

    def test_sixteen_with_sixteen_notes(self):
        source = random.Random(8)
        for row in [tuple(source.sample(range(16), 16)) for attempt in range(20)] + [tuple(range(16))]:
            journal = journal_of(16, row)
            walk = plain_groups(16, row)
            check_call(self, possible_groups, {"journal": journal}, [[many] for many in walk])
            check_call(self, count_walks, {"journal": journal}, 1)
            check_call(self, likeliest, {"journal": journal}, (walk, count_orders(journal)))
            check_call(self, orders_with, {"journal": journal, "walk": walk}, long_walks()[walk])
            other = walk[:7] + (walk[7] + 1,) + walk[8:]
            check_call(self, orders_with, {"journal": journal, "walk": other}, 0)

    def test_streets_with_empty_plots(self):
        for plots in (8, 12, 16):
            for times in range(1, plots + 1):
                journal = (plots, times, ())
                last = list(range(1, min(times, plots - times + 1) + 1))
                self.assertEqual(possible_groups(journal)[-1], last)
                walk, orders = likeliest(journal)
                self.assertEqual(orders_with(journal, walk), orders)
                self.assertEqual(count_orders(journal_of(plots, range(times))), orders_with(journal, (1,) * times))

    def test_possible_groups_are_those_with_orders(self):
        source = random.Random(2)
        for plots in (7, 12, 16):
            for row in mixed_rows(plots, 6):
                journal = (plots, len(row), tuple(note for note in true_notes(source, plots, row) if note[1] == "house"))
                for time, found in enumerate(possible_groups(journal)):
                    counts = [count_orders(with_note(journal, (time, "groups", many))) for many in range(1, 18)]
                    self.assertEqual(found, [many for many in range(1, 18) if counts[many - 1]])

    def test_lists_belong_to_the_caller(self):
        found = possible_groups(LANE)
        found[2].append(9)
        found.clear()
        self.assertEqual(possible_groups(LANE), [[1], [2], [1, 2], [1]])
        given = as_lists(LANE)
        found = possible_groups(given)
        given[2][0][2] = 1
        self.assertEqual(found, [[1], [2], [1, 2], [1]])


if __name__ == "__main__":
    unittest.main()
