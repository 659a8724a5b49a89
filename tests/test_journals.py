import copy
import itertools
import unittest

from onlygroups.errors import NoNote, Noted
from onlygroups.journals import is_journal, is_order, journal_of, with_note, without_note
from tests.calls import as_lists, check_call, check_error, check_parameters, check_thing, raised, same_kind
from tests.streets import all_streets, plain_groups, plain_notes, rows_on, some_journals, sorted_rows
from tests.things import HUGE, ODD_THINGS

LANE = (5, 4, ((1, "groups", 2), (3, "groups", 1)))


class JournalExamples(unittest.TestCase):

    def test_examples(self):
        self.assertEqual(
            (is_journal((5, 4, ((1, "groups", 2), (3, "groups", 1)))), is_journal((3, 4, ())),
             is_order(LANE, (0, 2, 1, 3))),
            (True, False, True))
        self.assertEqual(
            (journal_of(3, (2, 0)), with_note(LANE, (2, "house", "beside"))),
            ((3, 2, ((0, "groups", 1), (1, "groups", 2))),
             (5, 4, ((1, "groups", 2), (2, "house", "beside"), (3, "groups", 1)))))
        self.assertEqual(
            raised(self, Noted, "note", lambda: with_note(LANE, (3, "groups", 3))), (3, "groups", 1))


class IsJournalTests(unittest.TestCase):

    def check(self, thing, expected):
        check_thing(self, is_journal, (), thing, expected)

    def test_parameters(self):
        check_parameters(self, is_journal, ["thing"])
        self.assertIs(is_journal(thing=LANE), True)

    def test_plots_and_times(self):
        for plots in range(-3, 19):
            for times in range(-3, 19):
                self.check((plots, times, ()), 0 <= times <= plots)
        self.check((HUGE, HUGE, ()), True)
        self.check((HUGE, 0, ()), True)
        self.check((HUGE - 1, HUGE, ()), False)
        self.check((-HUGE, -HUGE, ()), False)

    def test_journals_of_every_size(self):
        for plots in range(17):
            for times in range(plots + 1):
                for journal in some_journals(plots, times, 5):
                    self.check(journal, True)

    def test_number_of_groups_however_great(self):
        for value in (1, 2, 5, 17, 10 ** 10, HUGE):
            self.check((1, 1, ((0, "groups", value),)), True)
        for value in (0, -1, -HUGE):
            self.check((1, 1, ((0, "groups", value),)), False)

    def test_notes_need_not_be_possible(self):
        self.check((2, 2, ((0, "groups", 2), (0, "house", "between"), (1, "groups", 9), (1, "house", "between"))), True)

    def test_times_of_notes(self):
        for time in (-HUGE, -2, -1, 0, 1, 2, 3, 4, 5, HUGE):
            self.check((5, 3, ((time, "groups", 1),)), 0 <= time < 3)
            self.check((5, 3, ((time, "house", "new"),)), 0 <= time < 3)
            self.check((5, 0, ((time, "groups", 1),)), False)

    def test_every_order_of_notes(self):
        four = ((0, "groups", 1), (0, "house", "new"), (1, "groups", 2), (1, "house", "beside"))
        for many in range(5):
            for notes in itertools.permutations(four, many):
                self.check((3, 2, notes), notes == tuple(sorted(notes)))

    def test_twice_the_same_sort_for_a_time(self):
        self.check((3, 2, ((0, "groups", 1), (0, "groups", 2))), False)
        self.check((3, 2, ((0, "groups", 1), (0, "groups", 1))), False)
        self.check((3, 2, ((0, "house", "beside"), (0, "house", "new"))), False)
        self.check((3, 2, ((0, "house", "new"), (0, "house", "new"))), False)
        self.check((3, 2, ((0, "groups", 1), (0, "house", "new"))), True)
        self.check((3, 2, ((0, "groups", 1), (1, "groups", 1))), True)
        self.check((3, 2, ((0, "groups", 1), (1, "groups", 1), (1, "groups", 2))), False)
        self.check((9, 4, ((0, "house", "new"), (1, "house", "new"), (3, "house", "beside"), (3, "house", "new"))), False)

    def test_lists_are_none(self):
        self.check(as_lists(LANE), False)
        self.check(list(LANE), False)
        self.check((5, 4, list(LANE[2])), False)
        self.check((5, 4, ([1, "groups", 2], (3, "groups", 1))), False)
        self.check((5, 4, ((1, "groups", 2), [3, "groups", 1])), False)
        self.check((5, 4, []), False)
        self.check([0, 0, ()], False)

    def test_bools_are_no_numbers(self):
        self.check((True, 1, ()), False)
        self.check((True, 0, ()), False)
        self.check((1, True, ()), False)
        self.check((1, False, ()), False)
        self.check((False, False, ()), False)
        self.check((2, 2, ((False, "groups", 1),)), False)
        self.check((2, 2, ((True, "groups", 1),)), False)
        self.check((2, 2, ((0, "groups", True),)), False)
        self.check((2, 2, ((True, "house", "new"),)), False)

    def test_wrong_lengths(self):
        for thing in ((), (5,), (5, 4), (5, 4, (), ()), (5, 4, (), None), (5, 4, 3)):
            self.check(thing, False)
        for note in ((), (0,), (0, "groups"), (0, "groups", 1, 1), (0, "house", "new", "new")):
            self.check((5, 4, (note,)), False)
            self.check((5, 4, ((0, "groups", 1), note)), False)

    def test_values_that_are_none(self):
        wrong = (None, True, False, "", "1", "New", "n", "groups", "house", (), [], (1,), [1], ("new",), ["new"])
        for value in wrong:
            self.check((5, 4, ((0, "groups", value),)), False)
            self.check((5, 4, ((0, "house", value),)), False)
            self.check((5, 4, ((0, "groups", 1), (1, "house", value))), False)
        for word in ("new", "beside", "between"):
            self.check((5, 4, ((0, "groups", word),)), False)
            self.check((5, 4, ((0, "house", word),)), True)
        for value in (0, 1, 2, HUGE):
            self.check((5, 4, ((0, "house", value),)), False)

    def test_sorts_that_are_none(self):
        for sort in (None, True, 0, "", "Groups", "group", "houses", "new", (), [], ("groups",), ["house"]):
            for value in (1, "new"):
                self.check((5, 4, ((0, sort, value),)), False)
                self.check((5, 4, ((0, "groups", 1), (1, sort, value))), False)

    def test_wrong_parts(self):
        for part in ODD_THINGS:
            self.check((part, 0, ()), isinstance(part, int) and not isinstance(part, bool) and part >= 0)
            self.check((5, part, ()), part in (0, 1) and not isinstance(part, bool))
            self.check((5, 4, part), False)
            self.check((5, 4, (part,)), False)
            self.check((5, 4, ((0, "groups", 1), part)), False)
            self.check((5, 4, ((part, "groups", 1),)), part in (0, 1) and not isinstance(part, bool))

    def test_odd_things(self):
        for thing in ODD_THINGS:
            self.check(thing, False)
        self.check((0, 0, ()), True)

    def test_text_of_a_journal_is_none(self):
        self.check("5 4 1:2 3:1", False)
        self.check("540", False)


class IsOrderTests(unittest.TestCase):

    def check(self, journal, thing, expected):
        kept = copy.deepcopy(journal)
        check_thing(self, is_order, (journal,), thing, expected)
        check_thing(self, is_order, (as_lists(journal),), thing, expected)
        self.assertEqual(journal, kept)

    def test_parameters(self):
        check_parameters(self, is_order, ["journal", "thing"])
        self.assertIs(is_order(journal=LANE, thing=(0, 2, 1, 3)), True)
        self.assertIs(is_order(thing=(0, 1, 2, 3), journal=LANE), False)

    def test_every_row(self):
        for plots in range(5):
            rows = list(rows_on(plots))
            for times in range(plots + 1):
                for journal in some_journals(plots, times, 8):
                    for row in rows:
                        true = set(journal[2]) <= set(plain_notes(plots, row))
                        self.check(journal, row, len(row) == times and true)

    def test_great_streets(self):
        for plots, row in all_streets():
            notes = plain_notes(plots, row)
            self.check((plots, len(row), tuple(notes)), row, True)
            for at, (time, sort, value) in enumerate(notes[:6]):
                for other in (value + 1, HUGE) if sort == "groups" else {"new", "beside", "between"} - {value}:
                    untrue = notes[:at] + [(time, sort, other)] + notes[at + 1:]
                    self.check((plots, len(row), tuple(untrue)), row, False)

    def test_wrong_lengths_and_plots(self):
        self.check((5, 2, ()), (0, 1), True)
        self.check((5, 2, ()), (0,), False)
        self.check((5, 2, ()), (0, 1, 2), False)
        self.check((5, 2, ()), (0, 5), False)
        self.check((5, 2, ()), (-1, 0), False)
        self.check((5, 2, ()), (3, 3), False)
        self.check((5, 1, ()), (HUGE,), False)
        self.check((0, 0, ()), (), True)
        self.check((5, 2, ()), (), False)

    def test_too_short_for_the_notes(self):
        for thing in ((), (0,), (0, 2), (0, 2, 1), (0, 2, 1, 3, 4)):
            self.check(LANE, thing, False)

    def test_lists_and_bools_are_none(self):
        self.check(LANE, [0, 2, 1, 3], False)
        self.check(LANE, (0, 2, True, 3), False)
        self.check(LANE, (False, 2, 1, 3), False)
        self.check((0, 0, ()), [], False)

    def test_odd_things(self):
        for thing in ODD_THINGS:
            self.check(LANE, thing, False)
            self.check((0, 0, ()), thing, False)
            self.check((16, 1, ()), thing, False)


class JournalOfTests(unittest.TestCase):

    def test_parameters(self):
        check_parameters(self, journal_of, ["plots", "row"])

    def test_against_runs(self):
        for plots, row in all_streets():
            notes = tuple((time, "groups", many) for time, many in enumerate(plain_groups(plots, row)))
            check_call(self, journal_of, {"plots": plots, "row": row}, (plots, len(row), notes))

    def test_row_is_an_order_of_its_journal(self):
        for plots, row in all_streets():
            journal = journal_of(plots, row)
            self.assertIs(is_journal(journal), True)
            self.assertIs(is_order(journal, row), True)

    def test_no_house(self):
        for plots in range(17):
            self.assertEqual(journal_of(plots, ()), (plots, 0, ()))


class NoteTests(unittest.TestCase):

    SORTS = {"groups": (1, 2, 7, HUGE), "house": ("new", "beside", "between")}

    def some(self):
        for plots, times in ((0, 0), (1, 1), (2, 2), (5, 4), (16, 16), (16, 3)):
            yield from some_journals(plots, times, 6)

    def test_parameters(self):
        check_parameters(self, with_note, ["journal", "note"])
        check_parameters(self, without_note, ["journal", "note"])

    def test_with_every_note(self):
        for plots, times, notes in self.some():
            there = {note[:2]: note for note in notes}
            for time in range(times):
                for sort, values in self.SORTS.items():
                    for value in values:
                        arguments = {"journal": (plots, times, notes), "note": (time, sort, value)}
                        if (time, sort) in there:
                            check_error(self, with_note, arguments, Noted, "note", there[time, sort])
                        else:
                            expected = tuple(sorted(notes + ((time, sort, value),)))
                            check_call(self, with_note, arguments, (plots, times, expected))

    def test_without_every_note(self):
        for plots, times, notes in self.some():
            for time in range(times):
                for sort, values in self.SORTS.items():
                    for note in [(time, sort, value) for value in values]:
                        arguments = {"journal": (plots, times, notes), "note": note}
                        if note in notes:
                            expected = tuple(other for other in notes if other != note)
                            check_call(self, without_note, arguments, (plots, times, expected))
                        else:
                            check_error(self, without_note, arguments, NoNote, "note", note)

    def test_there_and_back(self):
        for journal in self.some():
            for note in journal[2]:
                less = without_note(journal, note)
                self.assertIs(is_journal(less), True)
                self.assertEqual(with_note(less, note), journal)

    def test_noted_even_with_the_same_value(self):
        check_error(self, with_note, {"journal": LANE, "note": (1, "groups", 2)}, Noted, "note", (1, "groups", 2))

    def test_only_the_very_note_is_removed(self):
        for note in ((1, "groups", 1), (2, "groups", 2), (1, "house", "new"), (3, "groups", HUGE), (99, "groups", 2)):
            check_error(self, without_note, {"journal": LANE, "note": note}, NoNote, "note", note)
        self.assertEqual(without_note(LANE, (1, "groups", 2)), (5, 4, ((3, "groups", 1),)))

    def test_error_keeps_its_note(self):
        note = [2, "house", "new"]
        with self.assertRaises(NoNote) as caught:
            without_note(LANE, note)
        note[0] = 9
        self.assertTrue(same_kind(caught.exception.note, (2, "house", "new")))
        journal = as_lists(LANE)
        with self.assertRaises(Noted) as caught:
            with_note(journal, [3, "groups", 3])
        journal[2][1][2] = 9
        self.assertTrue(same_kind(caught.exception.note, (3, "groups", 1)))

    def test_a_note_narrows_the_orders(self):
        for row, notes in sorted_rows(4, 3):
            for note in notes:
                self.assertIs(is_order(with_note((4, 3, ()), note), row), True)


if __name__ == "__main__":
    unittest.main()
