"""The errors of the package. None puts its value into a text: Python refuses to write very great numbers."""

from onlygroups.checks import tuple_for_list


class BadText(ValueError):
    """There is no value with this text."""

    def __init__(self, text):
        self.text = text


class BadLine(ValueError):
    """The line with this number is not written as lines of a sheet are."""

    def __init__(self, number):
        self.number = number


class Impossible(ValueError):
    """There is no order; the evidence says why."""

    def __init__(self, evidence):
        self.evidence = tuple_for_list(evidence)


class Misfit(ValueError):
    """A note of this time, the least such one, is not true."""

    def __init__(self, time):
        self.time = time


class Noted(ValueError):
    """There is this note already."""

    def __init__(self, note):
        self.note = tuple_for_list(note)


class NoPlot(LookupError):
    """The street has no such plot."""

    def __init__(self, plot):
        self.plot = plot


class NoTime(LookupError):
    """No house has this time."""

    def __init__(self, time):
        self.time = time


class NoChoice(LookupError):
    """There is no choice with this number."""

    def __init__(self, number):
        self.number = number


class NoNote(LookupError):
    """There is no such note."""

    def __init__(self, note):
        self.note = tuple_for_list(note)


class NoNumber(LookupError):
    """No order has this number."""

    def __init__(self, number):
        self.number = number


class NoOperation(LookupError):
    """There are not so many operations in effect."""

    def __init__(self, many):
        self.many = many


class Built(RuntimeError):
    """There is a house on this plot already."""

    def __init__(self, plot):
        self.plot = plot


class TooMany(OverflowError):
    """There are this many orders, too many to list."""

    def __init__(self, many):
        self.many = many
