"""What the modules share to tell kinds of values apart."""


def is_number(thing):
    """Whether thing is an integer; True and False are integers in Python, but not here."""
    return isinstance(thing, int) and not isinstance(thing, bool)


def is_number_below(thing, limit):
    """Whether thing is a number from 0 to limit - 1."""
    return is_number(thing) and 0 <= thing < limit


def tuple_for_list(value):
    """The value, or the tuple for which a list stands, so that later changes of the list have no effect."""
    if isinstance(value, list):
        return tuple(value)
    return value
