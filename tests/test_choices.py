import copy
import unittest

from onlygroups.choices import changed, choices_of, gaps_of, is_choices, is_gaps, row_of
from onlygroups.errors import NoChoice, NoTime
from onlygroups.rows import groups, houses, is_row
from tests.calls import as_lists, check_call, check_error, check_parameters, check_thing
from tests.streets import all_choices, all_gaps, all_streets, choices_for, plain_choices, plain_gaps, plain_groups
from tests.streets import rows_on
from tests.things import HUGE, ODD_THINGS


class ChoiceExamples(unittest.TestCase):

    def test_examples(self):
        self.assertEqual(
            (choices_of((0, 2, 1, 3)), gaps_of(5, (0, 2, 1, 3))),
            ((("new", 0), ("new", 1), ("between", 0), ("beside", 1)), (0, 1)))
        self.assertEqual(
            (row_of((("new", 0), ("new", 0), ("beside", 0), ("between", 0)), (0, 1)), row_of((), (3,))),
            ((3, 1, 0, 2), ()))
        self.assertEqual(
            (changed(5, (0, 2, 1, 3), 3, 0), is_choices((("new", 0), ("between", 0))), is_gaps((("new", 0),), (0, 0))),
            ((1, 3, 2, 0), False, True))
        with self.assertRaises(NoChoice) as caught:
            changed(5, (0, 2, 1, 3), 2, 1)
        self.assertEqual(caught.exception.number, 1)


class IsChoicesTests(unittest.TestCase):

    def check(self, thing, expected):
        check_thing(self, is_choices, (), thing, expected)

    def test_parameters(self):
        check_parameters(self, is_choices, ["thing"])
        self.assertIs(is_choices(thing=()), True)

    def test_all_choices(self):
        for times in range(5):
            for choices, many in all_choices(times):
                self.check(choices, True)

    def test_choices_of_rows(self):
        for plots, row in all_streets():
            self.check(plain_choices(plots, row), True)

    def test_numbers_just_outside(self):
        for choices, many in all_choices(3):
            right = choices_for(many)
            for word in ("new", "beside", "between"):
                for number in list(range(-2, 2 * many + 3)) + [HUGE, -HUGE]:
                    self.check(choices + ((word, number),), (word, number) in right)

    def test_wrong_choice_in_the_middle(self):
        self.check((("new", 0), ("new", 2), ("new", 0)), False)
        self.check((("beside", 0), ("new", 0)), False)
        self.check((("new", 0), ("new", 0), ("between", 0), ("between", 0)), False)
        self.check((("new", 0), ("new", 0), ("between", 0), ("beside", 1)), True)
        self.check((("new", 0), ("new", 0), ("between", 0), ("beside", 2)), False)

    def test_lists_are_none(self):
        for thing in ([], [("new", 0)], (["new", 0],), [["new", 0]], (("new", 0), ["beside", 0]), (("new", [0]),)):
            self.check(thing, False)

    def test_bools_are_no_numbers(self):
        self.check((("new", False),), False)
        self.check((("new", 0), ("new", True)), False)
        self.check((("new", 0), ("beside", False)), False)
        self.check((("new", 0), ("new", 0), ("between", False)), False)

    def test_pairs_of_wrong_length(self):
        for pair in ((), ("new",), (0,), ("new", 0, 0), ("new", 0, None), ("new", ("new", 0))):
            self.check((pair,), False)
            self.check((("new", 0), pair), False)
            self.check((("new", 0), ("new", 0), ("new", 0), pair), False)

    def test_words_that_are_none(self):
        for word in ("", "New", "new ", "n", "groups", "newbeside", "house", 0, -1, True, None, (), [], ("new",), ["new"]):
            self.check(((word, 0),), False)
            self.check((("new", 0), (word, 0)), False)
            self.check((("new", 0), ("new", 0), ("new", 0), (word, 0)), False)
            self.check((("new", 0), ("new", 0), ("new", 0), (word, 0), ("new", 0)), False)

    def test_parts_that_are_no_pairs(self):
        for part in (None, 0, True, "new", "ab", [], HUGE):
            self.check((part,), False)
            self.check((("new", 0), part), False)

    def test_numbers_that_are_none(self):
        for number in (None, "0", "", (), [], (0,), [0]):
            self.check((("new", number),), False)

    def test_odd_things(self):
        for thing in ODD_THINGS:
            self.check(thing, False)
        self.check((), True)
        self.check((("new", 0),), True)


class IsGapsTests(unittest.TestCase):

    ONE = (("new", 0),)
    TWO = (("new", 0), ("new", 1))
    THREE = (("new", 0), ("new", 1), ("new", 2))

    def check(self, choices, thing, expected):
        kept = copy.deepcopy(choices)
        check_thing(self, is_gaps, (choices,), thing, expected)
        check_thing(self, is_gaps, (as_lists(choices),), thing, expected)
        self.assertEqual(choices, kept)

    def test_parameters(self):
        check_parameters(self, is_gaps, ["choices", "thing"])
        self.assertIs(is_gaps(choices=(), thing=(0,)), True)
        self.assertIs(is_gaps(thing=(), choices=()), False)

    def test_all_gaps(self):
        for times in range(4):
            for choices, many in all_choices(times):
                for empty in range(4):
                    for gaps in all_gaps(many, empty):
                        self.check(choices, gaps, True)
                        self.check(choices, list(gaps), False)

    def test_gaps_of_rows(self):
        for plots, row in all_streets():
            self.check(plain_choices(plots, row), plain_gaps(plots, row), True)

    def test_length(self):
        for choices, many in (((), 0), (self.ONE, 1), (self.TWO, 2), (self.THREE, 3)):
            for length in range(7):
                self.check(choices, (1,) * length, length == many + 1)

    def test_length_after_joining(self):
        joined = self.TWO + (("between", 0),)
        self.check(joined, (0, 0), True)
        self.check(joined, (0, 1, 0), False)
        self.check(joined + (("beside", 0),), (4, 0), True)

    def test_least_gaps(self):
        self.check((), (0,), True)
        self.check((), (-1,), False)
        self.check(self.ONE, (0, 0), True)
        self.check(self.ONE, (-1, 0), False)
        self.check(self.ONE, (0, -1), False)
        self.check(self.TWO, (0, 1, 0), True)
        self.check(self.TWO, (0, 0, 0), False)
        self.check(self.TWO, (0, -1, 0), False)
        self.check(self.THREE, (0, 1, 1, 0), True)
        self.check(self.THREE, (0, 0, 1, 0), False)
        self.check(self.THREE, (0, 1, 0, 0), False)
        self.check(self.THREE, (0, 1, 1, -1), False)

    def test_great_numbers(self):
        self.check((), (HUGE,), True)
        self.check((), (-HUGE,), False)
        self.check(self.TWO, (HUGE, HUGE, HUGE), True)

    def test_items_that_are_no_numbers(self):
        for item in (True, False, None, "1", "", [], [1], (), (1,)):
            self.check((), (item,), False)
            self.check(self.ONE, (item, 1), False)
            self.check(self.ONE, (1, item), False)
            self.check(self.TWO, (1, item, 1), False)

    def test_odd_things(self):
        for thing in ODD_THINGS:
            self.check((), thing, thing == (HUGE,))
            self.check(self.ONE, thing, False)
            self.check(self.THREE, thing, False)


class TranslationTests(unittest.TestCase):

    def test_parameters(self):
        check_parameters(self, choices_of, ["row"])
        check_parameters(self, gaps_of, ["plots", "row"])
        check_parameters(self, row_of, ["choices", "gaps"])
        check_parameters(self, changed, ["plots", "row", "time", "number"])

    def test_choices_against_runs(self):
        for plots, row in all_streets():
            check_call(self, choices_of, {"row": row}, plain_choices(plots, row))

    def test_gaps_against_runs(self):
        for plots, row in all_streets():
            check_call(self, gaps_of, {"plots": plots, "row": row}, plain_gaps(plots, row))

    def test_row_of_leads_back(self):
        for plots, row in all_streets():
            arguments = {"choices": plain_choices(plots, row), "gaps": plain_gaps(plots, row)}
            check_call(self, row_of, arguments, row)
            self.assertEqual(row_of(choices_of(row), gaps_of(plots, row)), row)

    def test_every_pair_has_its_row(self):
        for plots in range(6):
            found = []
            for times in range(plots + 1):
                for choices, many in all_choices(times):
                    for gaps in all_gaps(many, plots - times):
                        row = row_of(choices, gaps)
                        self.assertTrue(is_row(plots, row))
                        self.assertEqual((choices_of(row), gaps_of(plots, row)), (choices, gaps))
                        found.append(row)
            self.assertEqual(sorted(found), sorted(rows_on(plots)))

    def test_words_are_those_of_the_houses(self):
        for plots, row in all_streets():
            self.assertEqual(tuple(word for word, number in choices_of(row)), houses(row))

    def test_no_house_and_full_street(self):
        for plots in range(17):
            self.assertEqual((choices_of(()), gaps_of(plots, ()), row_of((), (plots,))), ((), (plots,), ()))
            row = tuple(range(plots))
            self.assertEqual(gaps_of(plots, row), (0, 0) if plots else (0,))
            expected = (("new", 0),) + (("beside", 1),) * (plots - 1) if plots else ()
            self.assertEqual(choices_of(row), expected)

    def test_great_gaps(self):
        row = row_of((("new", 0), ("new", 0)), (HUGE, HUGE, 3))
        self.assertTrue(row == (2 * HUGE + 1, HUGE))
        self.assertTrue(gaps_of(2 * HUGE + 5, row) == (HUGE, HUGE, 3))


class ChangedTests(unittest.TestCase):

    def check_error(self, arguments, error_class, attribute, value):
        check_error(self, changed, arguments, error_class, attribute, value)

    def check_time(self, plots, row, time, rows):
        """Compares each change of the time with the only row that has the changed choices."""
        choices, gaps = plain_choices(plots, row), plain_gaps(plots, row)
        many = ((0,) + plain_groups(plots, row))[time]
        word = choices[time][0]
        for number in list(range(-2, 2 * many + 3)) + [HUGE, -HUGE]:
            arguments = {"plots": plots, "row": row, "time": time, "number": number}
            if (word, number) in choices_for(many):
                expected = choices[:time] + ((word, number),) + choices[time + 1:]
                check_call(self, changed, arguments, rows[expected, gaps])
            else:
                self.check_error(arguments, NoChoice, "number", number)

    def test_every_time_and_number(self):
        for plots in range(5):
            rows = {(plain_choices(plots, row), plain_gaps(plots, row)): row for row in rows_on(plots)}
            for row in rows_on(plots):
                for time in range(len(row)):
                    self.check_time(plots, row, time, rows)

    def test_same_number_changes_nothing(self):
        for plots, row in all_streets():
            for time, (word, number) in enumerate(plain_choices(plots, row)):
                self.assertEqual(changed(plots, row, time, number), row)

    def test_great_streets(self):
        for plots, row in all_streets():
            if plots < 6:
                continue
            choices, before = plain_choices(plots, row), (0,) + plain_groups(plots, row)
            for time, (word, number) in enumerate(choices):
                for other in [at for name, at in choices_for(before[time]) if name == word]:
                    result = changed(plots, row, time, other)
                    expected = choices[:time] + ((word, other),) + choices[time + 1:]
                    self.assertEqual(plain_choices(plots, result), expected)
                    self.assertEqual(plain_gaps(plots, result), plain_gaps(plots, row))
                    self.assertEqual(groups(result), groups(row))

    def test_no_time(self):
        for plots, row in ((0, ()), (5, ()), (5, (0, 2, 1, 3)), (16, (3, 8))):
            for time in (-HUGE, -5, -2, -1, len(row), len(row) + 1, plots + 1, HUGE):
                arguments = {"plots": plots, "row": row, "time": time, "number": 0}
                self.check_error(arguments, NoTime, "time", time)

    def test_no_time_comes_first(self):
        for time in (-1, 4, HUGE):
            for number in (-1, 99, HUGE):
                arguments = {"plots": 5, "row": (0, 2, 1, 3), "time": time, "number": number}
                self.check_error(arguments, NoTime, "time", time)


if __name__ == "__main__":
    unittest.main()
