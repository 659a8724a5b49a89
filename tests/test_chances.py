import itertools
import math
import random
import unittest
from fractions import Fraction

from onlygroups.chances import group_chances, house_chances, mean_groups, plot_chances, together_chance
from onlygroups.errors import Impossible, NoTime
from onlygroups.journals import journal_of, with_note
from onlygroups.numbers import all_orders, count_orders
from onlygroups.texts import journal_in
from tests.calls import as_lists, check_call, check_error, check_parameters, raised
from tests.streets import doubtful_journals, impossible_journals, mixed_rows, orders_among, plain_evidence
from tests.streets import plain_groups, plain_houses, runs, small_possible_journals, sorted_rows, true_notes
from tests.things import HUGE

LANE = (5, 4, ((1, "groups", 2), (3, "groups", 1)))
WORDS = ("new", "beside", "between")
OF_ONE_TIME = (group_chances, mean_groups, house_chances, plot_chances)


def pair(part, whole):
    """The fraction as a pair."""
    found = Fraction(part, whole)
    return (found.numerator, found.denominator)


def share(values, value):
    """How many of the values are this one, as a pair."""
    return pair(values.count(value), len(values))


def plain_chances(plots, orders, time):
    """What the four functions of one time must return for these orders, in their order."""
    groups = [plain_groups(plots, order)[time] for order in orders]
    houses = [plain_houses(plots, order)[time] for order in orders]
    built = [order[time] for order in orders]
    return (
        [(many, share(groups, many)) for many in sorted(set(groups))],
        pair(sum(groups), len(groups)),
        [share(houses, word) for word in WORDS],
        [share(built, plot) for plot in range(plots)])


def in_one_group(plots, order, one, other):
    """Whether the houses of two times stand in one group at last."""
    low, high = sorted((order[one], order[other]))
    return any(first <= low and high <= last for first, last in runs(plots, order))


def plain_together(plots, orders, one, other):
    return share([in_one_group(plots, order, one, other) for order in orders], True)


def total(pairs):
    """The sum of fractions that are given as pairs."""
    return sum(Fraction(*part) for part in pairs)


def great_journals():
    """Journals with orders on 6 to 16 plots."""
    source = random.Random(13)
    for plots in (6, 8, 11, 16):
        for row in mixed_rows(plots, 6):
            if row:
                yield (plots, len(row), true_notes(source, plots, row))
                yield (plots, len(row), tuple(note for note in true_notes(source, plots, row) if note[1] == "house"))
                yield journal_of(plots, row)
        yield (plots, plots, ())
        yield (plots, plots // 2, ())


class ChanceExamples(unittest.TestCase):

    def test_examples(self):
        self.assertEqual(
            (group_chances(LANE, 2), mean_groups(LANE, 2), house_chances(LANE, 2)),
            ([(1, (1, 3)), (2, (2, 3))], (5, 3), [(0, 1), (2, 3), (1, 3)]))
        self.assertEqual(
            (plot_chances(LANE, 3), together_chance((3, 2, ()), 0, 1), together_chance(LANE, 0, 3)),
            ([(1, 12), (1, 4), (1, 3), (1, 4), (1, 12)], (2, 3), (1, 1)))
        self.assertEqual(raised(self, NoTime, "time", lambda: mean_groups(LANE, 4)), 4)


class ChanceTests(unittest.TestCase):

    def check_one_time(self, journal, orders, time):
        arguments = {"journal": journal, "time": time}
        for function, expected in zip(OF_ONE_TIME, plain_chances(journal[0], orders, time)):
            check_call(self, function, arguments, expected)

    def check_two_times(self, journal, orders, one, other):
        expected = plain_together(journal[0], orders, one, other)
        check_call(self, together_chance, {"journal": journal, "one": one, "other": other}, expected)


class SmallStreetTests(ChanceTests):

    def test_parameters(self):
        for function in OF_ONE_TIME:
            check_parameters(self, function, ["journal", "time"])
        check_parameters(self, together_chance, ["journal", "one", "other"])

    def test_one_time_against_all_orders(self):
        for journal, orders in small_possible_journals():
            for time in range(journal[1]):
                self.check_one_time(journal, orders, time)

    def test_two_times_against_all_orders(self):
        for journal, orders in small_possible_journals():
            for one, other in itertools.combinations(range(journal[1]), 2):
                self.check_two_times(journal, orders, one, other)

    def test_six_and_seven_plots_against_all_orders(self):
        source = random.Random(4)
        for plots, times in ((6, 6), (7, 5), (7, 4)):
            rows = sorted_rows(plots, times)
            for row in [tuple(source.sample(range(plots), times)) for attempt in range(4)]:
                journal = (plots, times, true_notes(source, plots, row))
                orders = orders_among(rows, journal)
                for time in range(times):
                    self.check_one_time(journal, orders, time)
                for one, other in itertools.combinations(range(times), 2):
                    self.check_two_times(journal, orders, one, other)

    def test_one_house(self):
        for plots in range(1, 17):
            journal = (plots, 1, ())
            check_call(self, group_chances, {"journal": journal, "time": 0}, [(1, (1, 1))])
            check_call(self, mean_groups, {"journal": journal, "time": 0}, (1, 1))
            check_call(self, house_chances, {"journal": journal, "time": 0}, [(1, 1), (0, 1), (0, 1)])
            check_call(self, plot_chances, {"journal": journal, "time": 0}, [(1, plots)] * plots)


class ErrorTests(unittest.TestCase):

    def check_impossible(self, journal, expected):
        """Impossible comes before NoTime."""
        for time in (-HUGE, -1, 0, journal[1] - 1, journal[1], HUGE):
            for function in OF_ONE_TIME:
                check_error(self, function, {"journal": journal, "time": time}, Impossible, "evidence", expected)
            for one, other in ((time, time + 1), (time - 1, time), (-HUGE, time), (time, HUGE)):
                arguments = {"journal": journal, "one": one, "other": other}
                check_error(self, together_chance, arguments, Impossible, "evidence", expected)

    def test_impossible_of_known_journals(self):
        for journal, expected in impossible_journals():
            self.check_impossible(journal, expected)

    def test_impossible_of_small_journals(self):
        for journal, rows in list(doubtful_journals())[::3]:
            if not orders_among(rows, journal):
                self.check_impossible(journal, plain_evidence(journal, False))

    def test_no_time(self):
        for journal in ((0, 0, ()), (5, 0, ()), (1, 1, ()), LANE, (16, 16, ())):
            for time in (-HUGE, -journal[1] - 1, -journal[1], -1, journal[1], journal[1] + 1, HUGE):
                if not 0 <= time < journal[1]:
                    for function in OF_ONE_TIME:
                        check_error(self, function, {"journal": journal, "time": time}, NoTime, "time", time)

    def test_no_time_of_one_before_that_of_other(self):
        for one, other, wrong in (
                (-1, 2, -1), (-HUGE, 3, -HUGE), (0, 4, 4), (3, 4, 4), (2, HUGE, HUGE), (-1, 4, -1), (-2, -1, -2),
                (-HUGE, HUGE, -HUGE), (4, 5, 4), (5, HUGE, 5), (-1, 0, -1)):
            check_error(self, together_chance, {"journal": LANE, "one": one, "other": other}, NoTime, "time", wrong)
        check_error(self, together_chance, {"journal": (1, 1, ()), "one": 0, "other": 1}, NoTime, "time", 1)
        check_error(self, together_chance, {"journal": (9, 0, ()), "one": 0, "other": 1}, NoTime, "time", 0)


class WithoutNotesTests(unittest.TestCase):

    SIZES = [(plots, times) for plots in (1, 2, 3, 6, 9, 16) for times in range(1, plots + 1)]

    def test_each_plot_has_the_same_chance(self):
        for plots, times in self.SIZES:
            for time in range(times):
                self.assertEqual(plot_chances((plots, times, ()), time), [(1, plots)] * plots)

    def test_numbers_of_groups(self):
        for plots, times in self.SIZES:
            for time in range(times):
                built = time + 1
                # So many streets have so many groups: where they are cut, and the gaps between which they stand.
                streets = {many: math.comb(built - 1, many - 1) * math.comb(plots - built + 1, many)
                           for many in range(1, built + 1)}
                expected = [(many, pair(streets[many], math.comb(plots, built))) for many in streets if streets[many]]
                self.assertEqual(group_chances((plots, times, ()), time), expected)
                mean = pair(built * (plots - built + 1), plots)
                self.assertEqual(mean_groups((plots, times, ()), time), mean)

    def test_kinds_of_houses(self):
        for plots, times in self.SIZES[3:]:
            for time in range(times):
                inner, outer = Fraction(plots - 2, plots), Fraction(2, plots)
                # How many ways there are for the earlier houses: on all other plots, not on the neighbouring ones.
                all_ways = math.comb(plots - 1, time)
                new = (inner * math.comb(plots - 3, time) if plots > 2 else 0) + outer * math.comb(plots - 2, time)
                between = inner * math.comb(plots - 3, time - 2) if time >= 2 else Fraction(0)
                expected = [pair(new, all_ways), pair(all_ways - new - between, all_ways), pair(between, all_ways)]
                self.assertEqual(house_chances((plots, times, ()), time), expected)

    def test_two_houses_in_one_group(self):
        for plots, times in self.SIZES:
            # Two houses at a distance stand in one group if all plots between them have houses.
            streets = sum((plots - far) * math.comb(plots - far - 1, times - far - 1) for far in range(1, times))
            for one, other in itertools.combinations(range(times), 2):
                expected = pair(streets, math.comb(plots, times) * math.comb(times, 2))
                self.assertEqual(together_chance((plots, times, ()), one, other), expected)


class GreatStreetTests(ChanceTests):

    def test_listed_orders(self):
        listed = 0
        for journal in great_journals():
            if count_orders(journal) <= 300:
                listed += 1
                orders = all_orders(journal)
                for time in range(0, journal[1], 3):
                    self.check_one_time(journal, orders, time)
                    if time:
                        self.check_two_times(journal, orders, time - 1, time)
                        self.check_two_times(journal, orders, 0, time)
        self.assertGreaterEqual(listed, 10)

    def test_groups_and_houses_are_shares_of_the_orders(self):
        for journal in great_journals():
            orders = count_orders(journal)
            for time in range(journal[1]):
                chances = group_chances(journal, time)
                if (time, "groups") not in [note[:2] for note in journal[2]]:
                    counts = {many: count_orders(with_note(journal, (time, "groups", many))) for many in range(1, 17)}
                    self.assertEqual(chances, [(many, pair(counts[many], orders)) for many in counts if counts[many]])
                else:
                    self.assertEqual([chance for many, chance in chances], [(1, 1)])
                if (time, "house") not in [note[:2] for note in journal[2]]:
                    counts = [count_orders(with_note(journal, (time, "house", word))) for word in WORDS]
                    self.assertEqual(house_chances(journal, time), [pair(count, orders) for count in counts])
                mean = sum(many * Fraction(*chance) for many, chance in chances)
                self.assertEqual(mean_groups(journal, time), pair(mean, 1))

    def test_all_chances_are_one_together(self):
        for journal in great_journals():
            by_plot = [Fraction(0)] * journal[0]
            for time in range(journal[1]):
                self.assertEqual(total([chance for many, chance in group_chances(journal, time)]), 1)
                self.assertEqual(total(house_chances(journal, time)), 1)
                chances = plot_chances(journal, time)
                self.assertEqual(total(chances), 1)
                self.assertEqual(chances, chances[::-1])
                by_plot = [early + Fraction(*late) for early, late in zip(by_plot, chances)]
            # A plot is built on at most once, and a street without empty plots everywhere.
            self.assertTrue(all(chance <= 1 for chance in by_plot))
            self.assertTrue(journal[0] > journal[1] or set(by_plot) == {1})

    def test_lowest_terms(self):
        for journal in great_journals():
            for time in (0, journal[1] // 2, journal[1] - 1):
                found = [mean_groups(journal, time)] + house_chances(journal, time) + plot_chances(journal, time)
                found += [chance for many, chance in group_chances(journal, time)]
                found += [together_chance(journal, 0, time)] if time else []
                for part, whole in found:
                    self.assertTrue(part >= 0 and whole >= 1 and math.gcd(part, whole) == 1)

    def test_one_group_at_last(self):
        for plots in (2, 5, 16):
            for one, other in itertools.combinations(range(plots), 2):
                self.assertEqual(together_chance((plots, plots, ()), one, other), (1, 1))
        alone = (16, 5, ((4, "groups", 5),))
        for one, other in itertools.combinations(range(5), 2):
            self.assertEqual(together_chance(alone, one, other), (0, 1))

    def test_very_long_street_from_a_text(self):
        journal = journal_in("9999999999 2")
        self.assertEqual(together_chance(journal, 0, 1), pair(2, 9999999999))
        self.assertEqual(mean_groups(journal, 1), pair(2 * 9999999998, 9999999999))
        self.assertEqual(house_chances(journal, 1), [pair(9999999997, 9999999999), pair(2, 9999999999), (0, 1)])

    def test_lists_belong_to_the_caller(self):
        for function in (group_chances, house_chances, plot_chances):
            given = as_lists(LANE)
            first = function(given, 2)
            kept = list(first)
            given[2].clear()
            self.assertEqual(first, kept)
            first.clear()
            self.assertEqual(function(LANE, 2), kept)


if __name__ == "__main__":
    unittest.main()
