import itertools
import math
import random
import unittest

from onlygroups.choices import changed
from onlygroups.errors import Misfit, NoNumber, TooMany
from onlygroups.journals import is_order, journal_of
from onlygroups.numbers import all_orders, count_orders, number_of, order_at
from onlygroups.texts import journal_in
from tests.calls import as_lists, check_call, check_error, check_parameters, raised, same_kind
from tests.streets import choices_for, mixed_rows, plain_choices, plain_gaps, plain_groups, plain_notes
from tests.streets import small_journals, sorted_rows, true_notes
from tests.things import HUGE

LANE = (5, 4, ((1, "groups", 2), (3, "groups", 1)))


def great_journals():
    """Journals on 12 to 16 plots with orders, each with one of these."""
    source = random.Random(16)
    for plots in (12, 15, 16):
        for row in mixed_rows(plots, 8):
            yield (plots, len(row), ()), row
            yield (plots, len(row), tuple(plain_notes(plots, row))), row
            yield (plots, len(row), true_notes(source, plots, row)), row
            yield journal_of(plots, row), row


class NumberExamples(unittest.TestCase):

    def test_examples(self):
        self.assertEqual(
            (count_orders(LANE), order_at(LANE, 1), number_of(LANE, (3, 1, 0, 2)), count_orders((3, 3, ()))),
            (24, (4, 2, 1, 3), 0, 6))
        self.assertEqual(
            (all_orders((3, 3, ((1, "groups", 2),))), count_orders((16, 16, ()))),
            ([(2, 0, 1), (0, 2, 1)], 20922789888000))
        self.assertEqual(raised(self, Misfit, "time", lambda: number_of(LANE, (0, 1, 2, 3))), 1)


class SmallStreetTests(unittest.TestCase):

    def test_parameters(self):
        check_parameters(self, count_orders, ["journal"])
        check_parameters(self, order_at, ["journal", "number"])
        check_parameters(self, number_of, ["journal", "order"])
        check_parameters(self, all_orders, ["journal"])

    def test_the_journals_are_of_all_sorts(self):
        counts = [len([row for row, true in rows if true.issuperset(journal[2])]) for journal, rows in small_journals()]
        self.assertIn(0, counts)
        self.assertIn(1, counts)
        self.assertIn(120, counts)
        self.assertGreaterEqual(len(set(counts)), 20)

    def test_count_and_list(self):
        for journal, rows in small_journals():
            expected = [row for row, true in rows if true.issuperset(journal[2])]
            check_call(self, count_orders, {"journal": journal}, len(expected))
            check_call(self, all_orders, {"journal": journal}, expected)

    def test_numbers_there_and_back(self):
        for journal, rows in small_journals():
            expected = [row for row, true in rows if true.issuperset(journal[2])]
            for number, row in enumerate(expected):
                self.assertTrue(same_kind(order_at(journal, number), row), (journal, number))
                self.assertTrue(same_kind(number_of(journal, row), number), (journal, row))
            for number, row in list(enumerate(expected))[:3]:
                check_call(self, order_at, {"journal": journal, "number": number}, row)
                check_call(self, number_of, {"journal": journal, "order": row}, number)

    def test_no_number(self):
        for journal, rows in small_journals():
            many = len([row for row, true in rows if true.issuperset(journal[2])])
            for number in (-HUGE, -many, -many - 1, -1, many, many + 1, HUGE):
                if not 0 <= number < many:
                    arguments = {"journal": journal, "number": number}
                    check_error(self, order_at, arguments, NoNumber, "number", number)

    def test_misfit_with_the_least_time(self):
        for journal, rows in small_journals():
            for row, true in rows:
                untrue = [time for time, sort, value in journal[2] if (time, sort, value) not in true]
                if untrue:
                    time = raised(self, Misfit, "time", lambda: number_of(journal, row))
                    self.assertTrue(same_kind(time, min(untrue)), (journal, row))

    def test_misfit_in_every_way_of_calling(self):
        journal = (5, 4, ((1, "groups", 2), (2, "house", "between"), (3, "groups", 1)))
        check_error(self, number_of, {"journal": journal, "order": (0, 2, 3, 1)}, Misfit, "time", 2)
        check_error(self, number_of, {"journal": journal, "order": (0, 2, 1, 4)}, Misfit, "time", 3)

    def test_misfit_without_any_order(self):
        for notes, least in ((((0, "groups", 2),), 0), (((2, "groups", HUGE),), 2), (((1, "house", "between"),), 1)):
            for row in itertools.permutations(range(4), 3):
                arguments = {"journal": (4, 3, notes), "order": row}
                check_error(self, number_of, arguments, Misfit, "time", least)
        self.assertEqual(raised(self, Misfit, "time", lambda: number_of((4, 3, ((2, "groups", 3),)), (0, 1, 2))), 2)

    def test_choices_can_be_replaced(self):
        for journal, rows in small_journals():
            plots, times, notes = journal
            for row in all_orders(journal)[:10]:
                choices, before = plain_choices(plots, row), (0,) + plain_groups(plots, row)
                for time, (word, number) in enumerate(choices):
                    for other in [at for name, at in choices_for(before[time]) if name == word]:
                        self.assertIs(is_order(journal, changed(plots, row, time, other)), True)


class NoHouseTests(unittest.TestCase):

    def test_no_house(self):
        for plots in range(17):
            journal = (plots, 0, ())
            self.assertEqual(
                (count_orders(journal), order_at(journal, 0), number_of(journal, ()), all_orders(journal)),
                (1, (), 0, [()]))
            for number in (-1, 1):
                check_error(self, order_at, {"journal": journal, "number": number}, NoNumber, "number", number)

    def test_no_order(self):
        for journal in ((4, 3, ((0, "groups", 2),)), (4, 3, ((2, "groups", 3),)), (9, 3, ((1, "house", "between"),))):
            check_call(self, count_orders, {"journal": journal}, 0)
            check_call(self, all_orders, {"journal": journal}, [])
            check_error(self, order_at, {"journal": journal, "number": 0}, NoNumber, "number", 0)


class GreatStreetTests(unittest.TestCase):

    def test_counts_without_notes(self):
        for plots in range(17):
            for times in range(plots + 1):
                self.assertEqual(count_orders((plots, times, ())), math.perm(plots, times))

    def test_product_for_known_groups(self):
        ways = {1: lambda many: many + 1, 0: lambda many: 2 * many, -1: lambda many: many - 1}
        for plots in range(17):
            for row in mixed_rows(plots, 12):
                counts = (0,) + plain_groups(plots, row)
                expected = math.comb(plots - len(row) + 1, counts[-1])
                for early, late in zip(counts, counts[1:]):
                    expected *= ways[late - early](early)
                self.assertEqual(count_orders(journal_of(plots, row)), expected)
                self.assertEqual(count_orders((plots, len(row), tuple(plain_notes(plots, row)))), expected)

    def test_values_of_a_note_share_the_orders(self):
        for time in range(16):
            by_groups = [count_orders((16, 16, ((time, "groups", many),))) for many in range(1, 18)]
            by_house = [count_orders((16, 16, ((time, "house", word),))) for word in ("new", "beside", "between")]
            self.assertEqual((sum(by_groups), sum(by_house)), (20922789888000, 20922789888000))

    def test_first_and_last_of_sixteen(self):
        journal = (16, 16, ())
        many = 20922789888000
        first, last = order_at(journal, 0), order_at(journal, many - 1)
        self.assertEqual((number_of(journal, first), number_of(journal, last)), (0, many - 1))
        # The first: always on the left of the only group. The last: new as long as the rest can still join them all.
        self.assertEqual(first, tuple(reversed(range(16))))
        self.assertEqual(plain_choices(16, last)[:8], tuple(("new", at) for at in range(8)))
        for number in (-HUGE, -many, -1, many, many + 1, HUGE):
            check_error(self, order_at, {"journal": journal, "number": number}, NoNumber, "number", number)

    def test_there_and_back(self):
        for journal, row in great_journals():
            number = number_of(journal, row)
            self.assertTrue(0 <= number < count_orders(journal))
            self.assertTrue(same_kind(order_at(journal, number), row))
            self.assertTrue(same_kind(order_at(as_lists(journal), number), row))

    def test_numbers_ascend_with_choices_and_gaps(self):
        source = random.Random(7)
        for journal, row in great_journals():
            many = count_orders(journal)
            numbers = {0, many - 1} | {source.randrange(many) for attempt in range(4)}
            numbers |= {number + 1 for number in numbers if number + 1 < many}
            keys = []
            for number in sorted(numbers):
                order = order_at(journal, number)
                self.assertIs(is_order(journal, order), True)
                self.assertEqual(number_of(journal, order), number)
                keys.append((plain_choices(journal[0], order), plain_gaps(journal[0], order)))
            self.assertTrue(all(early < late for early, late in zip(keys, keys[1:])))

    def test_very_long_street_from_a_text(self):
        journal = journal_in("9999999999 3 1:2 2:s")
        plots = 9999999999
        many = 2 * 4 * math.comb(plots - 2, 2)
        self.assertEqual(count_orders(journal), many)
        for number in (0, 1, many // 3, many // 2, many - 1):
            order = order_at(journal, number)
            self.assertIs(is_order(journal, order), True)
            self.assertEqual(number_of(journal, order), number)
        self.assertEqual(raised(self, TooMany, "many", lambda: all_orders(journal)), many)


class TooManyTests(unittest.TestCase):

    def test_three_hundred_are_listed(self):
        journal = (8, 4, ((1, "groups", 1), (2, "groups", 2)))
        expected = [row for row, true in sorted_rows(8, 4) if true.issuperset(journal[2])]
        self.assertEqual(len(expected), 300)
        check_call(self, all_orders, {"journal": journal}, expected)
        self.assertEqual(all_orders((300, 1, ())), [(plot,) for plot in range(300)])

    def test_just_above(self):
        for journal, many in (
                ((301, 1, ()), 301),
                ((18, 2, ()), 306),
                ((10, 4, ((1, "groups", 2), (3, "house", "between"))), 308),
                ((14, 3, ((1, "groups", 1),)), 312),
                ((6, 4, ()), 360),
                ((16, 16, ()), 20922789888000)):
            self.assertEqual(count_orders(journal), many)
            check_error(self, all_orders, {"journal": journal}, TooMany, "many", many)

    def test_list_belongs_to_the_caller(self):
        first = all_orders(LANE)
        first.clear()
        self.assertEqual(len(all_orders(LANE)), 24)


if __name__ == "__main__":
    unittest.main()
