import inspect
import random
import unittest

from onlygroups.errors import Built, NoNote, NoOperation, NoPlot, NoTime, Noted
from onlygroups.numbers import count_orders
from onlygroups.street import Street
from tests.calls import as_lists, raised, same_kind
from tests.streets import mixed_rows, plain_groups, plain_notes, rows_on
from tests.things import HUGE

PARAMETERS = {
    "build": ["plot"], "build_all": ["row"], "note_down": ["time", "sort"], "forget": ["note"], "turn": [], "undo": [],
    "row": [], "groups": [], "journal": [], "count": [], "empty": [], "operations": [], "as_of": ["many"], "twin": [],
    "log": [],
}


def answers(street):
    """What all queries answer, the log and the earlier states left aside."""
    return (street.row(), street.groups(), street.journal(), street.count(), street.empty(), len(street), repr(street))


def whole(street):
    """What all queries answer, in all states that are still there, the log left aside."""
    return [answers(street.as_of(many)) for many in range(street.operations() + 1)]


def plain_answers(plots, row, notes):
    """What a street of so many plots with this row and these notes must answer."""
    many = (plain_groups(plots, row) or (0,))[-1]
    journal = (plots, len(row), tuple(sorted(notes)))
    empty = [plot for plot in range(plots) if plot not in row]
    text = f"Street({len(row)} of {plots} plots, {many} groups)"
    return (row, many, journal, count_orders(journal), empty, len(row), text)


def new_street(plots, row, notes):
    """A new street in this state."""
    street = Street(plots)
    street.build_all(row)
    for time, sort, value in notes:
        street.note_down(time, sort)
    return street


class StreetExamples(unittest.TestCase):

    def test_examples(self):
        s = Street(5)
        self.assertEqual(
            (s.build_all([0, 2]), s.note_down(1, "groups"), s.build(1), s.build(3), s.note_down(3, "groups"), s.count()),
            (2, (1, "groups", 2), 1, 1, (3, "groups", 1), 24))
        self.assertEqual(raised(self, Built, "plot", lambda: s.build(2)), 2)
        self.assertEqual(
            (s.note_down(2, "house"), s.count(), s.empty(), repr(s)),
            ((2, "house", "between"), 8, [4], "Street(4 of 5 plots, 1 groups)"))
        self.assertEqual(
            (s.turn(), s.row(), s.undo(), s.forget((1, "groups", 2)), s.operations()),
            (None, (4, 2, 3, 1), True, 8, 7))


class InterfaceTests(unittest.TestCase):

    def test_methods_stand_in_the_class(self):
        for name, parameters in PARAMETERS.items():
            found = inspect.signature(vars(Street)[name]).parameters
            self.assertEqual(list(found), ["self"] + parameters)
            self.assertTrue(all(part.default is inspect.Parameter.empty for part in found.values()))
        for name in ("__init__", "__eq__", "__len__", "__repr__"):
            self.assertIn(name, vars(Street))

    def test_plots_may_be_left_out(self):
        self.assertEqual(Street(), Street(0))
        self.assertEqual(Street(plots=7), Street(7))
        self.assertEqual(Street().journal(), (0, 0, ()))

    def test_arguments_by_name(self):
        street = Street(plots=5)
        self.assertEqual(street.build(plot=4), 1)
        self.assertEqual(street.build_all(row=(0, 2)), 3)
        self.assertEqual(street.note_down(sort="groups", time=1), (1, "groups", 2))
        self.assertEqual(street.forget(note=(1, "groups", 2)), 60)
        self.assertEqual(street.as_of(many=1).row(), (4,))

    def test_new_street(self):
        for plots in range(17):
            street = Street(plots)
            self.assertTrue(same_kind(answers(street), plain_answers(plots, (), ())))
            self.assertEqual((street.operations(), street.log()), (0, []))


class StreetTests(unittest.TestCase):

    def check_state(self, street, plots, row, notes):
        self.assertTrue(same_kind(answers(street), plain_answers(plots, row, notes)), answers(street))

    def check_failure(self, street, name, arguments, error_class, attribute, value):
        """The call fails with this value and leaves nothing but two pairs in the log."""
        before, log = whole(street), street.log()
        call = getattr(street, name)
        given = as_lists(arguments)
        for attempt in (lambda: call(*arguments), lambda: call(*given), lambda: call(**dict(zip(PARAMETERS[name], given)))):
            self.assertTrue(same_kind(raised(self, error_class, attribute, attempt), value))
            log += [("in", name), ("out", name)]
            self.assertEqual(street.log(), log)
            self.assertTrue(same_kind(whole(street), before))
        self.assertEqual(given, as_lists(arguments))


class BuildTests(StreetTests):

    def test_every_row_house_by_house(self):
        for plots in range(5):
            for row in rows_on(plots):
                street = Street(plots)
                found = [street.build(plot) for plot in row]
                self.assertTrue(same_kind(found, list(plain_groups(plots, row))))
                self.check_state(street, plots, row, ())
                self.assertEqual(street.operations(), len(row))

    def test_every_row_at_once(self):
        for plots in range(5):
            for row in rows_on(plots):
                for given in (row, list(row)):
                    street = Street(plots)
                    self.assertTrue(same_kind(street.build_all(given), (plain_groups(plots, row) or (0,))[-1]))
                    self.check_state(street, plots, row, ())
                    self.assertEqual(street.operations(), 1)

    def test_great_streets(self):
        for plots in range(6, 17):
            for row in mixed_rows(plots, 10):
                half = len(row) // 2
                street = Street(plots)
                street.build_all(row[:half])
                for plot in row[half:]:
                    street.build(plot)
                self.check_state(street, plots, row, ())

    def test_empty_list_is_an_operation(self):
        street = Street(3)
        self.assertEqual(street.build_all([]), 0)
        self.assertEqual(street.build(1), 1)
        self.assertEqual(street.build_all(()), 1)
        self.assertEqual((street.operations(), street.row()), (3, (1,)))
        self.assertIs(street.undo(), True)
        self.assertEqual((street.operations(), street.row()), (2, (1,)))
        self.assertEqual(Street().build_all([]), 0)

    def test_no_plot(self):
        for plots in (0, 1, 5, 16):
            street = Street(plots)
            street.build_all(list(range(0, plots, 2)))
            for plot in (-HUGE, -plots, -2, -1, plots, plots + 1, HUGE):
                if not 0 <= plot < plots:
                    self.check_failure(street, "build", (plot,), NoPlot, "plot", plot)
                    self.check_failure(street, "build_all", ([plot],), NoPlot, "plot", plot)

    def test_built(self):
        street = Street(5)
        street.build_all([0, 3])
        street.note_down(0, "groups")
        for plot in (0, 3):
            self.check_failure(street, "build", (plot,), Built, "plot", plot)
            self.check_failure(street, "build_all", ([plot],), Built, "plot", plot)

    def test_fails_at_a_later_plot(self):
        street = Street(5)
        street.build(4)
        self.check_failure(street, "build_all", ([0, 1, 5],), NoPlot, "plot", 5)
        self.check_failure(street, "build_all", ([0, 1, 4],), Built, "plot", 4)
        self.check_failure(street, "build_all", ([0, 1, 2, 0],), Built, "plot", 0)
        self.check_failure(street, "build_all", ([1, 1, 9],), Built, "plot", 1)
        self.check_failure(street, "build_all", ([9, 1, 1],), NoPlot, "plot", 9)
        self.check_failure(street, "build_all", ([2, -1, 4],), NoPlot, "plot", -1)
        self.check_failure(street, "build_all", ([4, 9],), Built, "plot", 4)
        self.assertEqual(street.build_all([0, 1, 2, 3]), 1)

    def test_given_list_may_be_changed(self):
        street = Street(5)
        row = [3, 1]
        street.build_all(row)
        self.assertEqual(row, [3, 1])
        row.append(0)
        row[0] = 4
        self.check_state(street, 5, (3, 1), ())


class NoteTests(StreetTests):

    def test_every_note(self):
        for plots in (1, 4, 5, 16):
            for row in mixed_rows(plots, 8):
                street = new_street(plots, row, ())
                noted = []
                for note in plain_notes(plots, row)[::-1]:
                    self.assertTrue(same_kind(street.note_down(note[0], note[1]), note))
                    noted.append(note)
                    self.check_state(street, plots, row, noted)
                    self.check_failure(street, "note_down", note[:2], Noted, "note", note)
                self.assertEqual(street.operations(), 1 + len(noted))

    def test_no_time(self):
        for row in ((), (2,), (0, 2, 4)):
            street = new_street(5, row, ())
            for time in (-HUGE, -len(row) - 1, -1, len(row), 5, HUGE):
                for sort in ("groups", "house"):
                    self.check_failure(street, "note_down", (time, sort), NoTime, "time", time)

    def test_note_of_an_earlier_time(self):
        street = Street(5)
        street.build_all([0, 2])
        street.build_all([1, 3, 4])
        self.assertEqual(street.note_down(1, "groups"), (1, "groups", 2))
        self.assertEqual(street.note_down(4, "groups"), (4, "groups", 1))
        self.assertEqual(street.note_down(2, "house"), (2, "house", "between"))

    def test_notes_stay_while_houses_are_built(self):
        street = new_street(5, (0,), [(0, "groups", 1)])
        street.build(2)
        self.check_state(street, 5, (0, 2), [(0, "groups", 1)])
        self.check_failure(street, "note_down", (0, "groups"), Noted, "note", (0, "groups", 1))

    def test_forget_every_note(self):
        for plots in (4, 5, 16):
            for row in mixed_rows(plots, 6):
                noted = plain_notes(plots, row)
                for note in noted[::3]:
                    for given in (note, list(note)):
                        street = new_street(plots, row, noted)
                        rest = [other for other in noted if other != note]
                        expected = count_orders((plots, len(row), tuple(rest)))
                        self.assertTrue(same_kind(street.forget(given), expected))
                        self.check_state(street, plots, row, rest)
                        self.check_failure(street, "forget", (note,), NoNote, "note", note)
                        self.assertTrue(same_kind(street.note_down(note[0], note[1]), note))
                        self.check_state(street, plots, row, noted)

    def test_no_note(self):
        street = new_street(5, (0, 2, 1), [(1, "groups", 2), (2, "house", "between")])
        for note in ((1, "groups", 1), (1, "groups", 3), (1, "groups", HUGE), (0, "groups", 2), (2, "groups", 2),
                     (1, "house", "new"), (2, "house", "beside"), (-1, "groups", 2), (99, "house", "new"),
                     (HUGE, "groups", HUGE), (-HUGE, "house", "between")):
            self.check_failure(street, "forget", (note,), NoNote, "note", note)
        self.check_failure(Street(), "forget", ((0, "groups", 1),), NoNote, "note", (0, "groups", 1))

    def test_error_keeps_its_note(self):
        note = [0, "house", "new"]
        with self.assertRaises(NoNote) as caught:
            Street(3).forget(note)
        note[0] = 7
        self.assertTrue(same_kind(caught.exception.note, (0, "house", "new")))


class TurnTests(StreetTests):

    def test_turn(self):
        for plots in (0, 1, 4, 5, 16):
            for row in mixed_rows(plots, 8):
                noted = plain_notes(plots, row)[::2]
                street = new_street(plots, row, noted)
                before = street.operations()
                self.assertIsNone(street.turn())
                self.check_state(street, plots, tuple(plots - 1 - plot for plot in row), noted)
                self.assertIsNone(street.turn())
                self.check_state(street, plots, row, noted)
                self.assertEqual(street.operations(), before + 2)

    def test_plots_are_counted_from_the_other_end_from_now_on(self):
        street = Street(5)
        street.build(0)
        street.turn()
        self.check_failure(street, "build", (4,), Built, "plot", 4)
        self.assertEqual(street.build(0), 2)
        self.assertEqual(street.row(), (4, 0))


class UndoTests(StreetTests):

    def test_nothing_to_undo(self):
        street = Street(4)
        self.assertIs(street.undo(), False)
        street.build(1)
        self.assertIs(street.undo(), True)
        self.assertIs(street.undo(), False)
        self.assertIs(street.undo(), False)
        self.check_state(street, 4, (), ())
        self.assertEqual(street.log(), [
            ("in", "undo"), ("out", "undo"), ("in", "build"), ("out", "build"),
            ("in", "undo"), ("out", "undo"), ("in", "undo"), ("out", "undo"), ("in", "undo"), ("out", "undo")])

    def test_undo_of_each_operation(self):
        for name, arguments in (("build", (1,)), ("build_all", ([1, 3],)), ("build_all", ([],)),
                                ("note_down", (1, "groups")), ("forget", ((1, "house", "new"),)), ("turn", ())):
            street = new_street(5, (0, 2), [(1, "house", "new")])
            before = whole(street)
            getattr(street, name)(*arguments)
            self.assertEqual(street.operations(), 3)
            self.assertIs(street.undo(), True)
            self.assertTrue(same_kind(whole(street), before), name)

    def test_failed_operation_is_not_undone(self):
        street = Street(5)
        street.build(0)
        street.build(2)
        raised(self, Built, "plot", lambda: street.build(2))
        self.assertIs(street.undo(), True)
        self.assertEqual(street.row(), (0,))

    def test_undone_operation_can_be_done_again(self):
        street = Street(5)
        street.build(0)
        street.note_down(0, "house")
        street.undo()
        self.assertEqual(street.note_down(0, "house"), (0, "house", "new"))
        street.undo()
        street.undo()
        self.assertEqual(street.build(0), 1)


class AsOfTests(StreetTests):

    def street(self):
        street = Street(6)
        street.build(0)
        street.build_all([2, 4])
        street.note_down(1, "groups")
        street.turn()
        street.build_all([])
        street.note_down(2, "house")
        street.forget((1, "groups", 2))
        street.build(4)
        return street

    STATES = [((), ()), ((0,), ()), ((0, 2, 4), ()), ((0, 2, 4), ((1, "groups", 2),)), ((5, 3, 1), ((1, "groups", 2),)),
              ((5, 3, 1), ((1, "groups", 2),)), ((5, 3, 1), ((1, "groups", 2), (2, "house", "new"))),
              ((5, 3, 1), ((2, "house", "new"),)), ((5, 3, 1, 4), ((2, "house", "new"),))]

    def test_at_each_number_of_operations(self):
        street = self.street()
        log = street.log()
        for many, (row, notes) in enumerate(self.STATES):
            early = street.as_of(many)
            self.assertIs(type(early), Street)
            self.check_state(early, 6, row, notes)
            self.assertEqual((early.operations(), early.log()), (many, []))
            for left in reversed(range(many)):
                self.assertIs(early.undo(), True)
                self.check_state(early, 6, *self.STATES[left])
            self.assertIs(early.undo(), False)
        self.assertEqual(street.log(), log)
        self.check_state(street, 6, *self.STATES[-1])

    def test_streets_are_apart(self):
        street = self.street()
        before = whole(street)
        for many in range(street.operations() + 1):
            early = street.as_of(many)
            early.build_all(early.empty())
            early.turn()
            self.assertTrue(same_kind(whole(street), before))
        early = street.as_of(3)
        kept = whole(early)
        for step in range(8):
            street.undo()
        street.build(5)
        self.assertTrue(same_kind(whole(early), kept))
        self.assertEqual(early.log(), [])

    def test_undone_operations_are_not_counted(self):
        street = self.street()
        street.undo()
        street.undo()
        self.assertEqual(street.operations(), 6)
        self.assertEqual(raised(self, NoOperation, "many", lambda: street.as_of(7)), 7)
        street.turn()
        self.check_state(street.as_of(7), 6, (0, 2, 4), ((1, "groups", 2), (2, "house", "new")))

    def test_no_operation(self):
        street = self.street()
        before, log = whole(street), street.log()
        for many in (-HUGE, -9, -1, 9, 10, HUGE):
            self.assertTrue(same_kind(raised(self, NoOperation, "many", lambda: street.as_of(many)), many))
        self.assertTrue(same_kind(whole(street), before))
        self.assertEqual(street.log(), log)
        for many in (-1, 1):
            self.assertEqual(raised(self, NoOperation, "many", lambda: Street(3).as_of(many)), many)

    def test_twin(self):
        street = self.street()
        twin = street.twin()
        self.assertIs(type(twin), Street)
        self.assertIsNot(twin, street)
        self.assertEqual(twin, street)
        self.assertEqual((twin.operations(), twin.log()), (8, []))
        self.assertTrue(same_kind(whole(twin), whole(street)))
        twin.build(0)
        self.check_state(street, 6, *self.STATES[-1])
        street.undo()
        self.assertEqual(twin.row(), (5, 3, 1, 4, 0))
        self.assertEqual(Street(3).twin(), Street(3))

    def test_sixty_operations(self):
        street = Street(16)
        for step in range(30):
            street.turn()
            street.build_all([step // 2] if step % 2 else [])
        self.assertEqual(street.operations(), 60)
        states = whole(street)
        for left in reversed(range(60)):
            street.undo()
            self.assertTrue(same_kind(answers(street), states[left]))


class LogTests(StreetTests):

    def test_queries_are_not_logged(self):
        street = new_street(5, (0, 2), [(1, "groups", 2)])
        log = street.log()
        self.assertEqual(len(whole(street)), 3)
        self.assertEqual(street.twin(), street)
        raised(self, NoOperation, "many", lambda: street.as_of(99))
        self.assertEqual(street.log(), log)

    def test_log_of_each_operation(self):
        street = Street(5)
        expected = []
        for name, arguments in (("build", (1,)), ("build_all", ([0, 3],)), ("note_down", (1, "groups")), ("turn", ()),
                                ("forget", ((1, "groups", 1),)), ("undo", ()), ("build_all", ([],)), ("undo", ())):
            getattr(street, name)(*arguments)
            expected += [("in", name), ("out", name)]
            self.assertTrue(same_kind(street.log(), expected))

    def test_returned_lists_may_be_changed(self):
        street = Street(5)
        street.build(1)
        street.log().clear()
        street.empty().clear()
        self.assertEqual(street.log(), [("in", "build"), ("out", "build")])
        self.assertEqual(street.empty(), [0, 2, 3, 4])


class EqualityTests(StreetTests):

    def test_equal_in_the_same_state(self):
        one, other = Street(5), Street(5)
        one.build_all([0, 2])
        other.build(0)
        self.assertFalse(one == other)
        self.assertTrue(one != other)
        other.build(2)
        self.assertTrue(one == other)
        self.assertFalse(one != other)
        one.note_down(1, "groups")
        self.assertFalse(one == other)
        other.note_down(0, "groups")
        self.assertFalse(one == other)
        other.note_down(1, "groups")
        one.note_down(0, "groups")
        self.assertTrue(one == other)

    def test_rows_and_plots_count(self):
        self.assertNotEqual(Street(4), Street(5))
        self.assertNotEqual(new_street(5, (0, 2), ()), new_street(5, (2, 0), ()))
        self.assertNotEqual(new_street(5, (0,), ()), new_street(5, (4,), ()))
        self.assertNotEqual(new_street(5, (0,), ()), new_street(6, (0,), ()))

    def test_equals_nothing_else(self):
        street = new_street(5, (0,), ())
        for other in (None, 0, 1, True, "", repr(street), (), [], {}, street.row(), street.journal(), Street, object()):
            self.assertIs(street == other, False)
            self.assertIs(other == street, False)
            self.assertIs(street != other, True)

    def test_result_is_a_bool(self):
        self.assertIs(Street(2) == Street(2), True)
        self.assertIs(Street(2) == Street(3), False)

    def test_len_and_repr(self):
        self.assertEqual((len(Street()), repr(Street())), (0, "Street(0 of 0 plots, 0 groups)"))
        self.assertEqual(repr(new_street(1, (0,), ())), "Street(1 of 1 plots, 1 groups)")
        self.assertEqual(repr(new_street(16, (0, 2, 4), ())), "Street(3 of 16 plots, 3 groups)")


class GuaranteeTests(StreetTests):

    SORTS = ("groups", "house")

    def any_call(self, source, street):
        """The name and the arguments of a call that may well fail."""
        plots = street.journal()[0]
        name = source.choice(["build", "build", "build_all", "note_down", "note_down", "note_down", "forget", "turn",
                              "undo", "undo"])
        if name == "build":
            return name, (source.randrange(-1, plots + 2),)
        if name == "build_all":
            return name, ([source.randrange(-1 if source.randrange(4) == 0 else 0, plots + 1) for step in range(3)],)
        if name == "note_down":
            return name, (source.randrange(-1, len(street) + 1), source.choice(self.SORTS))
        if name == "forget":
            return name, (source.choice(list(street.journal()[2]) + [(0, "groups", 1), (1, "house", "between")]),)
        return name, ()

    def outcome(self, street, name, arguments):
        """What a call returns, or the class and the attributes of its error."""
        try:
            return getattr(street, name)(*arguments)
        except (ValueError, LookupError, RuntimeError) as error:
            return type(error).__name__, vars(error)

    def plain_outcome(self, plots, states, name, arguments):
        """The state after a call that does not fail, None after one that fails; undo left aside."""
        row, notes = states[-1]
        if name in ("build", "build_all"):
            more = list(arguments) if name == "build" else arguments[0]
            fits = len(set(row) | set(more)) == len(row) + len(more) and all(0 <= plot < plots for plot in more)
            return (row + tuple(more), notes) if fits else None
        if name == "note_down":
            found = [note for note in plain_notes(plots, row) if note[:2] == arguments and note not in notes]
            return (row, notes + found) if found else None
        if name == "forget":
            left = [note for note in notes if note != arguments[0]]
            return (row, left) if len(left) < len(notes) else None
        return (tuple(plots - 1 - plot for plot in row), notes)

    def step(self, source, street, plots, states):
        """Makes a call, and does the same to the plain list of states."""
        name, arguments = self.any_call(source, street)
        log = street.log()
        result = self.outcome(street, name, arguments)
        self.assertEqual(street.log(), log + [("in", name), ("out", name)])
        if name == "undo":
            self.assertIs(result, len(states) > 1)
            del states[max(1, len(states) - 1):]
            return
        after = self.plain_outcome(plots, states, name, arguments)
        failed = isinstance(result, tuple) and len(result) == 2
        self.assertEqual(failed, after is None, (name, arguments, result))
        if not failed:
            states.append(after)

    def test_like_a_new_street_in_the_same_state(self):
        source = random.Random(5)
        for plots in (0, 1, 2, 3, 5, 8, 16):
            for attempt in range(6):
                street, states = Street(plots), [((), [])]
                for step in range(40):
                    self.step(source, street, plots, states)
                    row, notes = states[-1]
                    self.check_state(street, plots, row, notes)
                    self.assertEqual(street.operations(), len(states) - 1)
                    fresh = new_street(plots, row, notes)
                    self.assertEqual(street, fresh)
                    self.assertTrue(same_kind(answers(street), answers(fresh)))
                    self.check_same_calls(source, street.twin(), fresh)
                for many, (row, notes) in enumerate(states):
                    self.check_state(street.as_of(many), plots, row, notes)

    def check_same_calls(self, source, street, fresh):
        """Both streets answer further calls alike."""
        for step in range(2):
            name, arguments = self.any_call(source, street)
            if name != "undo":
                results = [self.outcome(either, name, arguments) for either in (street, fresh)]
                self.assertTrue(results[0] == results[1], (name, arguments, results))
                self.assertTrue(same_kind(answers(street), answers(fresh)))


if __name__ == "__main__":
    unittest.main()
