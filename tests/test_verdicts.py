import itertools
import random
import unittest

from onlygroups.errors import Impossible
from onlygroups.journals import is_order, journal_of
from onlygroups.numbers import number_of
from onlygroups.texts import journal_in
from onlygroups.verdicts import evidence, first_order, is_possible
from tests.calls import check_call, check_error, check_parameters, raised, same_kind
from tests.streets import doubtful_journals, doubtful_notes, impossible_journals, mixed_rows, orders_among
from tests.streets import plain_evidence, plain_notes, small_journals, sorted_rows, true_notes
from tests.things import HUGE

LANE = (5, 4, ((1, "groups", 2), (3, "groups", 1)))
WORDS = ("new", "beside", "between")


def every_journal(plots, times, highest):
    """All journals of this size whose numbers of groups are at most the highest."""
    about_groups = [[]] + [[("groups", many)] for many in range(1, highest + 1)]
    about_house = [[]] + [[("house", word)] for word in WORDS]
    about_time = [some + more for some in about_groups for more in about_house]
    for chosen in itertools.product(about_time, repeat=times):
        notes = tuple((time, *said) for time, all_said in enumerate(chosen) for said in all_said)
        yield (plots, times, notes)


def evidence_by_sets(journal):
    """The evidence, from the set of all numbers of groups that there can be after each time."""
    plots, times, notes = journal
    noted = {note[:2]: note[2] for note in notes}
    counts = {0}
    for time in range(times):
        after = set()
        for many in counts:
            steps = [("new", many + 1)] + [("beside", many)] * (many >= 1) + [("between", many - 1)] * (many >= 2)
            after |= {late for word, late in steps
                      if noted.get((time, "house"), word) == word and noted.get((time, "groups"), late) == late}
        if not after:
            return ("stuck", time)
        counts = after
    return None if min(counts) <= plots - times + 1 else ("room", min(counts))


class VerdictExamples(unittest.TestCase):

    def test_examples(self):
        self.assertEqual((is_possible(LANE), evidence(LANE), first_order(LANE)), (True, None, (3, 1, 0, 2)))
        self.assertEqual(
            (evidence((4, 3, ((0, "groups", 2),))), evidence((4, 3, ((2, "groups", 3),)))),
            (("stuck", 0), ("room", 3)))
        self.assertEqual(
            raised(self, Impossible, "evidence", lambda: first_order((9, 3, ((1, "house", "between"),)))), ("stuck", 1))


class VerdictTests(unittest.TestCase):

    def check(self, journal, expected, first):
        """All three functions answer as they must, in every way of calling them."""
        check_call(self, evidence, {"journal": journal}, expected)
        check_call(self, is_possible, {"journal": journal}, expected is None)
        if expected is None:
            check_call(self, first_order, {"journal": journal}, first)
        else:
            check_error(self, first_order, {"journal": journal}, Impossible, "evidence", expected)


class SmallStreetTests(VerdictTests):

    def test_parameters(self):
        for function in (evidence, is_possible, first_order):
            check_parameters(self, function, ["journal"])

    def test_the_journals_are_of_all_sorts(self):
        found = {evidence(journal) for journal, rows in doubtful_journals()}
        self.assertIn(None, found)
        self.assertTrue({("stuck", time) for time in range(5)} <= found)
        self.assertTrue({("room", many) for many in (2, 3, 4, 5)} <= found)

    def test_against_all_rows(self):
        for journal, rows in itertools.chain(small_journals(), doubtful_journals()):
            orders = orders_among(rows, journal)
            self.check(journal, plain_evidence(journal, bool(orders)), (orders or [None])[0])

    def test_every_journal_of_up_to_two_houses(self):
        for plots in range(5):
            for times in range(min(plots, 2) + 1):
                rows = sorted_rows(plots, times)
                for journal in every_journal(plots, times, 4):
                    orders = orders_among(rows, journal)
                    self.check(journal, plain_evidence(journal, bool(orders)), (orders or [None])[0])

    def test_every_journal_of_three_houses(self):
        for plots in (3, 4, 5):
            rows = sorted_rows(plots, 3)
            for journal in every_journal(plots, 3, 3):
                expected = plain_evidence(journal, bool(orders_among(rows, journal)))
                self.assertTrue(same_kind(evidence(journal), expected), journal)
                self.assertIs(is_possible(journal), expected is None)

    def test_no_house(self):
        for plots in range(17):
            self.check((plots, 0, ()), None, ())

    def test_known_journals(self):
        for journal, expected in impossible_journals():
            self.check(journal, expected, None)


class EvidenceTests(VerdictTests):

    def test_least_time(self):
        notes = ((0, "groups", 1), (1, "groups", 4), (2, "groups", 9), (3, "house", "between"))
        self.check((16, 4, notes), ("stuck", 1), None)
        self.check((16, 4, notes[:1] + notes[2:]), ("stuck", 2), None)
        self.check((16, 4, ((3, "groups", 2), (3, "house", "between"))), None, (4, 2, 0, 1))

    def test_two_notes_of_one_time(self):
        self.check((9, 2, ((1, "groups", 2), (1, "house", "beside"))), ("stuck", 1), None)
        self.check((9, 2, ((1, "groups", 1), (1, "house", "new"))), ("stuck", 1), None)
        self.check((9, 1, ((0, "groups", 1), (0, "house", "beside"))), ("stuck", 0), None)

    def test_stuck_comes_before_room(self):
        self.check((3, 3, ((1, "groups", 3), (2, "groups", 3))), ("stuck", 1), None)
        self.check((3, 3, ((2, "groups", 4),)), ("stuck", 2), None)
        self.check((3, 3, ((2, "groups", 3),)), ("room", 3), None)
        self.check((4, 3, ((2, "groups", 3),)), ("room", 3), None)
        self.check((5, 3, ((2, "groups", 3),)), None, (4, 2, 0))

    def test_least_number_of_groups(self):
        for times in range(1, 17):
            for noted in range(1, times + 1):
                for many in range(1, noted + 1):
                    least = max(many - (times - noted), 1)
                    journal = (16, times, ((noted - 1, "groups", many),))
                    self.assertEqual(evidence(journal), ("room", least) if least > 17 - times else None, journal)

    def test_sixteen_plots_against_sets(self):
        source = random.Random(6)
        found = set()
        for attempt in range(3000):
            times = source.randrange(17)
            journal = (source.randrange(times, 17), times, doubtful_notes(source, times))
            expected = evidence_by_sets(journal)
            self.assertTrue(same_kind(evidence(journal), expected), journal)
            self.assertIs(is_possible(journal), expected is None)
            found.add(expected)
        self.assertGreaterEqual(len(found), 15)

    def test_great_numbers_of_groups(self):
        for time in (0, 3, 15):
            self.check((16, 16, ((time, "groups", HUGE),)), ("stuck", time), None)

    def test_very_many_times_from_a_text(self):
        for text, expected in (
                ("9999999999 9999999999", None),
                ("9999999999 9999999999 9999999998:1", None),
                ("9999999999 9999999999 9999999998:2", ("room", 2)),
                ("9999999999 9999999999 5000000000:5000000001", ("room", 3)),
                ("9999999999 9999999999 4999999998:4999999999 4999999999:s", None),
                ("9999999999 9999999999 4999999998:4999999999 4999999999:n", None),
                ("9999999999 9999999999 4999999998:4999999999 4999999999:s 5000000000:n", ("room", 2)),
                ("9999999999 9999999999 5:7 4999999999:s", ("stuck", 5)),
                ("9999999999 9999999998 7:3 9999999997:9999999998", ("stuck", 9999999997))):
            self.assertTrue(same_kind(evidence(journal_in(text)), expected), text)
            self.assertIs(is_possible(journal_in(text)), expected is None)
            if expected is not None:
                self.assertEqual(raised(self, Impossible, "evidence", lambda: first_order(journal_in(text))), expected)


class FirstOrderTests(VerdictTests):

    def test_great_streets(self):
        source = random.Random(3)
        for plots in (6, 9, 12, 16):
            for row in mixed_rows(plots, 12):
                for notes in ((), tuple(plain_notes(plots, row)), true_notes(source, plots, row)):
                    journal = (plots, len(row), notes)
                    first = first_order(journal)
                    self.check(journal, None, first)
                    self.assertIs(is_order(journal, first), True)
                    self.assertEqual(number_of(journal, first), 0)
                self.assertEqual(evidence(journal_of(plots, row)), None)

    def test_sixteen_without_notes(self):
        self.check((16, 16, ()), None, tuple(reversed(range(16))))

    def test_error_keeps_its_evidence(self):
        with self.assertRaises(Impossible) as caught:
            first_order([4, 3, [[2, "groups", 3]]])
        self.assertTrue(same_kind(caught.exception.evidence, ("room", 3)))


if __name__ == "__main__":
    unittest.main()
