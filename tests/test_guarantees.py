"""The guarantees (a) to (e), each over several modules."""

import copy
import itertools
import math
import random
import unittest
from fractions import Fraction

from onlygroups.chances import group_chances, house_chances, mean_groups, plot_chances, together_chance
from onlygroups.choices import changed, choices_of, gaps_of, row_of
from onlygroups.errors import Impossible
from onlygroups.journals import is_journal, is_order, journal_of, with_note, without_note
from onlygroups.numbers import all_orders, count_orders, number_of, order_at
from onlygroups.rows import groups, houses, mirrored
from onlygroups.sheet import answers
from onlygroups.street import Street
from onlygroups.texts import choices_in, choices_text, journal_in, journal_text, row_in, row_text
from onlygroups.verdicts import evidence, first_order, is_possible
from onlygroups.walks import count_walks, likeliest, orders_with, possible_groups
from tests.calls import as_lists, raised, same_kind
from tests.streets import all_gaps, choices_for, doubtful_journals, doubtful_notes, impossible_journals, mixed_rows
from tests.streets import plain_notes, small_possible_journals, true_notes

WORDS = ("new", "beside", "between")


def great_streets():
    """Pairs of a journal on 7 to 16 plots and one of its orders."""
    source = random.Random(21)
    for plots in (7, 10, 16):
        for row in mixed_rows(plots, 7):
            yield (plots, len(row), true_notes(source, plots, row)), row
            yield journal_of(plots, row), row
        yield (plots, len(row), ()), row


def doubtful_streets():
    """Journals of which many have no order."""
    source = random.Random(22)
    for journal, rows in doubtful_journals():
        yield journal
    for attempt in range(200):
        times = source.randrange(17)
        yield (source.randrange(times, 17), times, doubtful_notes(source, times))


def free_notes(journal):
    """The pairs of a time and a sort of which the journal has no note."""
    there = [note[:2] for note in journal[2]]
    pairs = itertools.product(range(journal[1]), ("groups", "house"))
    return [pair for pair in pairs if pair not in there]


def values_of(journal, sort):
    """All values that a true note of this sort may have."""
    return list(WORDS) if sort == "house" else list(range(1, journal[1] + 2))


def share(part, whole):
    found = Fraction(part, whole)
    return (found.numerator, found.denominator)


class ChoiceTests(unittest.TestCase):
    """(a) An order is a list of choices and the gaps; each choice can be replaced by every other one of its kind."""

    def check_replaced(self, journal, order):
        plots = journal[0]
        choices, gaps, before = choices_of(order), gaps_of(plots, order), (0,) + groups(order)
        self.assertEqual(row_of(choices, gaps), order)
        for time, (word, number) in enumerate(choices):
            for other in [at for name, at in choices_for(before[time]) if name == word]:
                replaced = changed(plots, order, time, other)
                self.assertIs(is_order(journal, replaced), True)
                self.assertEqual((groups(replaced), houses(replaced)), (groups(order), houses(order)))
                self.assertEqual(choices_of(replaced), choices[:time] + ((word, other),) + choices[time + 1:])
                self.assertEqual(gaps_of(plots, replaced), gaps)
                self.assertEqual(order_at(journal, number_of(journal, replaced)), replaced)

    def test_replaced_one_by_one(self):
        for journal, orders in small_possible_journals():
            for order in orders[::9]:
                self.check_replaced(journal, order)
        for journal, order in great_streets():
            self.check_replaced(journal, order)

    def test_replaced_all_at_once(self):
        for journal, orders in small_possible_journals():
            plots, times, notes = journal
            for walk in sorted({groups(order) for order in orders})[:4]:
                steps = [choices_for(many) for many in (0,) + walk[:-1]][:times]
                words = [{1: "new", 0: "beside", -1: "between"}[late - early] for early, late in zip((0,) + walk, walk)]
                kinds = [[choice for choice in step if choice[0] == word] for step, word in zip(steps, words)]
                gaps = list(all_gaps(walk[-1] if walk else 0, plots - times))
                rows = {row_of(choices, gap) for choices in itertools.product(*kinds) for gap in gaps}
                self.assertEqual(rows, {order for order in orders if groups(order) == walk})
                self.assertEqual(len(rows), len(gaps) * math.prod(len(kind) for kind in kinds))
                self.assertEqual(len(rows), orders_with(journal, walk))


class CountTests(unittest.TestCase):
    """(b) Orders are counted without going through them, and numbered."""

    def check_values(self, journal):
        """The values of a note that is not there yet share the orders."""
        many = count_orders(journal)
        for time, sort in free_notes(journal):
            counts = [count_orders(with_note(journal, (time, sort, value))) for value in values_of(journal, sort)]
            self.assertEqual(sum(counts), many)
            self.assertTrue(all(count <= many for count in counts))

    def test_counts_add_up_over_the_values_of_a_note(self):
        for journal in doubtful_streets():
            self.check_values(journal)
        for journal, order in great_streets():
            self.check_values(journal)

    def test_a_note_less_leaves_no_fewer(self):
        for journal in doubtful_streets():
            for note in journal[2]:
                less = without_note(journal, note)
                self.assertGreaterEqual(count_orders(less), count_orders(journal))
                self.assertTrue(is_possible(less) or not is_possible(journal))

    def test_counts_add_up_over_the_walks(self):
        for journal, orders in small_possible_journals():
            walks = {groups(order) for order in orders}
            self.assertEqual(len(walks), count_walks(journal))
            self.assertEqual(sum(orders_with(journal, walk) for walk in walks), count_orders(journal))
            for walk in walks:
                known = (journal[0], journal[1], tuple((time, "groups", many) for time, many in enumerate(walk)))
                self.assertEqual(count_orders(known), orders_with((journal[0], journal[1], ()), walk))

    def test_numbers(self):
        for journal, order in great_streets():
            many = count_orders(journal)
            for number in {0, many // 3, many // 2, many - 1}:
                self.assertEqual(number_of(journal, order_at(journal, number)), number)
            self.assertEqual(order_at(journal, number_of(journal, order)), order)
            self.assertEqual(first_order(journal), order_at(journal, 0))

    def test_likeliest_walk_is_one(self):
        for journal, order in great_streets():
            walk, orders = likeliest(journal)
            self.assertEqual(orders_with(journal, walk), orders)
            self.assertGreaterEqual(orders, orders_with(journal, groups(order)))
            self.assertGreaterEqual(orders * count_walks(journal), count_orders(journal))
            self.assertTrue(all(many in found for many, found in zip(walk, possible_groups(journal))))


class EvidenceTests(unittest.TestCase):
    """(c) Either some order agrees with the notes, or there is evidence."""

    def check(self, journal):
        found = evidence(journal)
        self.assertEqual((found is None, count_orders(journal) > 0), (is_possible(journal), is_possible(journal)))
        if found is None:
            self.assertIs(is_order(journal, first_order(journal)), True)
            return
        for call in (first_order, possible_groups, count_walks, likeliest, lambda given: mean_groups(given, -1)):
            self.assertEqual(raised(self, Impossible, "evidence", lambda: call(journal)), found)
        self.check_evidence(journal, found)

    def check_evidence(self, journal, found):
        """The evidence stays on longer streets or goes, as its word says."""
        plots, times, notes = journal
        kind, value = found
        if kind == "stuck":
            early = tuple(note for note in notes if note[0] < value)
            self.assertEqual(evidence((plots + 50, times, notes)), found)
            self.assertIs(is_possible((2 * times + 50, times, early)), True)
        else:
            self.assertGreater(value, plots - times + 1)
            self.assertEqual(evidence((times + value - 2, times, notes)), found)
            self.assertIs(is_possible((times + value - 1, times, notes)), True)

    def test_evidence_or_an_order(self):
        for journal in doubtful_streets():
            self.check(journal)
        for journal, expected in impossible_journals():
            self.check(journal)
            self.assertEqual(evidence(journal), expected)


class ChanceTests(unittest.TestCase):
    """(d) Chances are exact fractions."""

    def streets(self):
        yield from great_streets()
        for journal, orders in small_possible_journals():
            yield journal, orders[-1]

    def test_chances_are_one_together(self):
        for journal, order in self.streets():
            for time in {0, journal[1] // 2, journal[1] - 1} & set(range(journal[1])):
                of_groups = group_chances(journal, time)
                self.assertEqual(sum(Fraction(*chance) for many, chance in of_groups), 1)
                self.assertEqual(sum(Fraction(*chance) for chance in house_chances(journal, time)), 1)
                self.assertEqual(sum(Fraction(*chance) for chance in plot_chances(journal, time)), 1)
                mean = sum(many * Fraction(*chance) for many, chance in of_groups)
                self.assertEqual(Fraction(*mean_groups(journal, time)), mean)
                self.assertEqual([many for many, chance in of_groups], possible_groups(journal)[time])

    def test_what_an_order_has_is_possible(self):
        for journal, order in self.streets():
            for time in range(0, journal[1], 3):
                self.assertGreater(dict(group_chances(journal, time))[groups(order)[time]], (0, 1))
                self.assertGreater(house_chances(journal, time)[WORDS.index(houses(order)[time])], (0, 1))
                self.assertGreater(plot_chances(journal, time)[order[time]], (0, 1))

    def test_notes_make_certain(self):
        for journal, order in great_streets():
            for time, sort, value in journal[2]:
                if sort == "groups":
                    self.assertEqual(group_chances(journal, time), [(value, (1, 1))])
                    self.assertEqual(mean_groups(journal, time), (value, 1))
                else:
                    self.assertEqual(house_chances(journal, time)[WORDS.index(value)], (1, 1))

    def test_chances_are_shares_of_the_counts(self):
        for journal, orders in small_possible_journals():
            many = count_orders(journal)
            for time, sort in free_notes(journal):
                counts = [count_orders(with_note(journal, (time, sort, value))) for value in values_of(journal, sort)]
                expected = [share(count, many) for count in counts]
                if sort == "house":
                    self.assertEqual(house_chances(journal, time), expected)
                else:
                    known = [(value, chance) for value, chance in enumerate(expected, 1) if chance[0]]
                    self.assertEqual(group_chances(journal, time), known)

    def test_together_in_a_street_without_room_to_be_apart(self):
        for plots in range(2, 17):
            full = (plots, plots, ())
            self.assertEqual(together_chance(full, 0, plots - 1), (1, 1))


class TurnTests(unittest.TestCase):
    """A street turned about: the notes stay as true, and both ends are alike."""

    def test_orders_turned_about(self):
        for journal, orders in small_possible_journals():
            plots = journal[0]
            turned = [mirrored(plots, order) for order in orders]
            self.assertEqual(sorted(turned), sorted(orders))
            self.assertEqual([groups(order) for order in turned], [groups(order) for order in orders])
            for order in turned:
                self.assertIs(is_order(journal, order), True)
        for journal, order in great_streets():
            turned = mirrored(journal[0], order)
            self.assertIs(is_order(journal, turned), True)
            self.assertEqual(order_at(journal, number_of(journal, turned)), turned)
            self.assertEqual(journal_of(journal[0], turned), journal_of(journal[0], order))

    def test_plots_turned_about(self):
        for journal, order in great_streets():
            for time in range(0, journal[1], 4):
                chances = plot_chances(journal, time)
                self.assertEqual(chances, chances[::-1])

    def test_street_turned_about(self):
        for journal, order in great_streets():
            street = Street(journal[0])
            street.build_all(order)
            for time, sort, value in journal[2]:
                self.assertEqual(street.note_down(time, sort), (time, sort, value))
            before = street.count()
            street.turn()
            self.assertEqual(street.row(), mirrored(journal[0], order))
            self.assertEqual((street.journal(), street.count()), (journal, before))


class StreetTests(unittest.TestCase):
    """(e) A Street answers like a new one in the same state, and as the functions do."""

    def any_line(self, source, street, plots):
        """A line of a sheet that may well fail."""
        notes = list(street.journal()[2]) + [(0, "groups", 1), (1, "house", "between")]
        letters = {"new": "n", "beside": "s", "between": "b"}
        time, sort, value = source.choice(notes)
        return source.choice([
            f"build {source.randrange(plots + 1)}", f"build {source.randrange(plots + 1)}",
            "build_all " + row_text(source.sample(range(plots + 1), min(2, plots + 1))),
            f"count {source.randrange(len(street) + 1)}", f"look {source.randrange(len(street) + 1)}",
            f"count {source.randrange(len(street) + 1)}", f"look {source.randrange(len(street) + 1)}",
            f"forget {time}:{letters.get(value, value)}", "turn", "undo"])

    def do(self, street, line):
        """Does to a street what a line says, whether it fails or not."""
        word, blank, rest = line.partition(" ")
        calls = {
            "build": lambda: street.build(int(rest)), "build_all": lambda: street.build_all(row_in(rest)),
            "count": lambda: street.note_down(int(rest), "groups"), "look": lambda: street.note_down(int(rest), "house"),
            "forget": lambda: street.forget(journal_in("9 9 " + rest)[2][0]), "turn": street.turn, "undo": street.undo}
        try:
            calls[word]()
        except (ValueError, LookupError, RuntimeError):
            return False
        return True

    def fresh(self, street):
        """A new street in the same state."""
        plots, times, notes = street.journal()
        other = Street(plots)
        for plot in street.row():
            other.build(plot)
        for time, sort, value in notes:
            other.note_down(time, sort)
        return other

    def check_beside_functions(self, street):
        row, journal = street.row(), street.journal()
        self.assertIs(is_journal(journal), True)
        self.assertIs(is_order(journal, row), True)
        self.assertEqual(street.count(), count_orders(journal))
        self.assertEqual(street.groups(), (groups(row) or (0,))[-1])
        self.assertEqual(order_at(journal, number_of(journal, row)), row)
        self.assertIsNone(evidence(journal))
        self.assertEqual(len(possible_groups(journal)), len(row))
        self.assertGreater(orders_with(journal, groups(row)), 0)
        for note in journal[2]:
            self.assertIn(note, plain_notes(journal[0], row))

    def check_beside_sheet(self, street, lines):
        """A sheet of the same lines ends in the same state."""
        queries = ["show", "row", "choices", "orders", "first"] + [f"when {time}" for time in range(len(street))]
        journal = street.journal()
        expected = [journal_text(journal), row_text(street.row()), choices_text(choices_of(street.row())),
                    str(street.count()), row_text(first_order(journal))]
        expected += [row_text(after) for after in possible_groups(journal)]
        text = "\n".join([f"street {journal[0]}"] + lines + queries)
        self.assertEqual(answers(text)[len(lines):], expected)

    def test_after_any_operations(self):
        source = random.Random(31)
        failed = 0
        for plots in (0, 1, 3, 5, 9):
            for attempt in range(5):
                street, lines = Street(plots), []
                for step in range(40):
                    lines.append(self.any_line(source, street, plots))
                    before = street.twin()
                    if not self.do(street, lines[-1]):
                        failed += 1
                        self.assertEqual((street, street.operations()), (before, before.operations()))
                    self.check_beside_functions(street)
                    other = self.fresh(street)
                    self.assertEqual(street, other)
                    self.assertTrue(same_kind([street.row(), street.journal(), street.empty(), street.count(), repr(street)],
                                              [other.row(), other.journal(), other.empty(), other.count(), repr(other)]))
                self.check_beside_sheet(street, lines)
        self.assertGreaterEqual(failed, 100)


class CallTests(unittest.TestCase):
    """What is returned may be passed in again, and what is given is left as it is."""

    def results(self, journal, order):
        """What all functions of a journal return, each called with these very values."""
        plots, times, notes = journal
        found = [evidence(journal), is_possible(journal), first_order(journal), count_orders(journal),
                 number_of(journal, order), order_at(journal, 0), possible_groups(journal), count_walks(journal),
                 likeliest(journal), orders_with(journal, groups(order)), journal_text(journal), row_text(order),
                 choices_text(choices_of(order)), choices_of(order), gaps_of(plots, order), mirrored(plots, order)]
        for time in range(0, times, 2):
            found += [group_chances(journal, time), mean_groups(journal, time), house_chances(journal, time),
                      plot_chances(journal, time)]
            found += [together_chance(journal, 0, time)] if time else []
        return found

    def test_lists_and_unchanged_arguments(self):
        for journal, order in great_streets():
            given = as_lists([journal, order])
            kept = copy.deepcopy(given)
            self.assertTrue(same_kind(self.results(*given), self.results(journal, order)))
            self.assertTrue(same_kind(given, kept))

    def spoil(self, value):
        """Changes every list that was returned, at any depth."""
        if isinstance(value, (list, tuple)):
            for part in value:
                self.spoil(part)
        if isinstance(value, list):
            value.clear()
            value.append("spoiled")

    def test_changed_results_have_no_effect(self):
        for journal, order in great_streets():
            first = self.results(journal, order)
            kept = copy.deepcopy(first)
            self.spoil(first)
            self.assertTrue(same_kind(self.results(journal, order), kept))

    def test_returned_values_are_taken_again(self):
        for journal, order in great_streets():
            self.assertEqual(journal_in(journal_text(journal)), journal)
            self.assertEqual(row_in(row_text(order)), order)
            self.assertEqual(choices_in(choices_text(choices_of(order))), choices_of(order))
            self.assertEqual(orders_with(journal, likeliest(journal)[0]), likeliest(journal)[1])
            if count_orders(journal) <= 300:
                self.assertIn(order, all_orders(journal))


if __name__ == "__main__":
    unittest.main()
