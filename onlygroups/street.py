"""A street over many operations."""

from onlygroups.choices import groups_after
from onlygroups.errors import Built, NoOperation, NoPlot, NoTime
from onlygroups.journals import true_value, with_note, without_note
from onlygroups.numbers import count_orders
from onlygroups.rows import houses, mirrored


def longer_row(plots, row, more):
    """The ROW with the plots of more behind it, on a street of so many plots."""
    longer = list(row)
    for plot in more:
        if not 0 <= plot < plots:
            raise NoPlot(plot)
        if plot in longer:
            raise Built(plot)
        longer.append(plot)
    return tuple(longer)


class Street:
    """A street with houses in a known order, and notes about them.

    It keeps the state after each operation in effect, the one before them all first: what is undone or fails
    cannot leave a trace in the states before it. A state is the pair of the ROW and the NOTEs.
    """

    def __init__(self, plots=0):
        self.plots = plots
        self.states = [((), ())]
        self.told = []

    def build(self, plot):
        """Builds a house. Returns the number of groups then."""
        self.told.append(("in", "build"))
        try:
            return self.build_on([plot])
        finally:
            self.told.append(("out", "build"))

    def build_all(self, row):
        """Builds on all these plots as one operation. Returns the number of groups then."""
        self.told.append(("in", "build_all"))
        try:
            return self.build_on(row)
        finally:
            self.told.append(("out", "build_all"))

    def note_down(self, time, sort):
        """Notes the number of groups after a time, or its house. Returns the NOTE."""
        self.told.append(("in", "note_down"))
        try:
            return self.note_truth(time, sort)
        finally:
            self.told.append(("out", "note_down"))

    def forget(self, note):
        """Removes a NOTE. Returns how many ORDERs the JOURNAL has then."""
        self.told.append(("in", "forget"))
        try:
            journal = without_note(self.journal(), note)
            self.states.append((self.row(), journal[2]))
            return count_orders(journal)
        finally:
            self.told.append(("out", "forget"))

    def turn(self):
        """Counts the plots from the other end from now on."""
        self.told.append(("in", "turn"))
        self.states.append((mirrored(self.plots, self.row()), self.notes()))
        self.told.append(("out", "turn"))

    def undo(self):
        """Takes back the last operation in effect. Returns whether there was one."""
        self.told.append(("in", "undo"))
        undone = self.operations() > 0
        if undone:
            self.states.pop()
        self.told.append(("out", "undo"))
        return undone

    def build_on(self, more):
        """Builds on these plots as one operation, without a line in the log."""
        self.states.append((longer_row(self.plots, self.row(), more), self.notes()))
        return self.groups()

    def note_truth(self, time, sort):
        """Notes what is true, without a line in the log."""
        if not 0 <= time < len(self.row()):
            raise NoTime(time)
        note = (time, sort, true_value(self.row(), time, sort))
        journal = with_note(self.journal(), note)
        self.states.append((self.row(), journal[2]))
        return note

    def row(self):
        """The ROW."""
        return self.states[-1][0]

    def notes(self):
        """The tuple of the NOTEs."""
        return self.states[-1][1]

    def groups(self):
        """How many groups there are."""
        return groups_after(houses(self.row()))

    def journal(self):
        """The JOURNAL of the plots, the times and the NOTEs."""
        return (self.plots, len(self.row()), self.notes())

    def count(self):
        """How many ORDERs the JOURNAL has."""
        return count_orders(self.journal())

    def empty(self):
        """The ascending list of the plots without a house."""
        row = self.row()
        return [plot for plot in range(self.plots) if plot not in row]

    def operations(self):
        """How many operations are in effect."""
        return len(self.states) - 1

    def as_of(self, many):
        """A new Street in the state after the first many operations in effect."""
        if not 0 <= many <= self.operations():
            raise NoOperation(many)
        other = Street(self.plots)
        other.states = self.states[:many + 1]
        return other

    def twin(self):
        """A new Street in the state after all operations in effect."""
        return self.as_of(self.operations())

    def log(self):
        """The list of what was called, and when it ended."""
        return list(self.told)

    def __eq__(self, other):
        return isinstance(other, Street) and self.row() == other.row() and self.journal() == other.journal()

    def __len__(self):
        return len(self.row())

    def __repr__(self):
        return f"Street({len(self.row())} of {self.plots} plots, {self.groups()} groups)"
