"""Sheets: lines of text that a street answers."""

from onlygroups.choices import choices_of
from onlygroups.errors import BadLine, BadText, Built, NoNote, NoPlot, NoTime, Noted
from onlygroups.street import Street
from onlygroups.texts import choices_text, journal_text, note_in, number_in, row_in, row_text
from onlygroups.verdicts import first_order
from onlygroups.walks import possible_groups

MOST_PLOTS = 16
WORDS_ALONE = ("turn", "undo", "show", "row", "choices", "orders", "first")
WORDS_WITH_NUMBER = ("build", "count", "look", "when")


def answer_build(street, plot):
    return str(street.build(plot))


def answer_build_all(street, row):
    return str(street.build_all(row))


def answer_count(street, time):
    return str(street.note_down(time, "groups")[2])


def answer_look(street, time):
    return street.note_down(time, "house")[2]


def answer_forget(street, note):
    return str(street.forget(note))


def answer_turn(street, nothing):
    street.turn()
    return "done"


def answer_undo(street, nothing):
    return "yes" if street.undo() else "no"


def answer_show(street, nothing):
    return journal_text(street.journal())


def answer_row(street, nothing):
    return row_text(street.row())


def answer_choices(street, nothing):
    return choices_text(choices_of(street.row()))


def answer_orders(street, nothing):
    return str(street.count())


def answer_first(street, nothing):
    return row_text(first_order(street.journal()))


def answer_when(street, time):
    if time >= len(street.row()):
        raise NoTime(time)
    return row_text(possible_groups(street.journal())[time])


ACTIONS = {
    "build": answer_build, "build_all": answer_build_all, "count": answer_count, "look": answer_look,
    "forget": answer_forget, "turn": answer_turn, "undo": answer_undo, "show": answer_show, "row": answer_row,
    "choices": answer_choices, "orders": answer_orders, "first": answer_first, "when": answer_when,
}


def answer(street, word, value):
    """The answer to a line with this word and this value."""
    action = ACTIONS[word]
    try:
        return action(street, value)
    except NoPlot:
        return "error NoPlot"
    except Built:
        return "error Built"
    except NoTime:
        return "error NoTime"
    except Noted:
        return "error Noted"
    except NoNote:
        return "error NoNote"


def first_pair_in(line):
    """The pair of the word and the number of plots of the first line; None if it is not written so."""
    word, blank, rest = line.partition(" ")
    plots = number_in(rest)
    if word != "street" or plots is None or plots > MOST_PLOTS:
        return None
    return (word, plots)


def row_or_none(text):
    """The tuple of different numbers with that text; None if there is none."""
    try:
        return row_in(text)
    except BadText:
        return None


def value_in(word, rest):
    """The value that stands behind a word; None if there is none."""
    if word in WORDS_WITH_NUMBER:
        return number_in(rest)
    if word == "build_all":
        return row_or_none(rest)
    if word == "forget":
        return note_in(rest)
    return None


def pair_in(line):
    """The pair of the word and the value of a line after the first one; None if it is not written so."""
    if line in WORDS_ALONE:
        return (line, None)
    word, blank, rest = line.partition(" ")
    value = value_in(word, rest)
    if value is None:
        return None
    return (word, value)


def pairs_in(lines):
    """The list of the pairs of all lines that are not empty."""
    pairs = []
    for number, line in enumerate(lines):
        if line == "":
            continue
        pair = pair_in(line) if pairs else first_pair_in(line)
        if pair is None:
            raise BadLine(number)
        pairs.append(pair)
    return pairs


def answers(text):
    """The list of the answers to the lines of a text."""
    lines = text.split("\n")
    pairs = pairs_in(lines)
    if not pairs:
        raise BadLine(len(lines))
    street = Street(pairs[0][1])
    return [answer(street, word, value) for word, value in pairs[1:]]
