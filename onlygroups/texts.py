"""Texts: rows, choices and journals, written and read."""

from onlygroups.choices import is_choices
from onlygroups.errors import BadText
from onlygroups.journals import is_journal, is_note

LETTERS = {"new": "n", "beside": "s", "between": "b"}
WORDS_OF_LETTERS = {"n": "new", "s": "beside", "b": "between"}
MOST_DIGITS = 10


def text_of(words):
    """The text of these words."""
    if not words:
        return "-"
    return " ".join(words)


def words_in(text):
    """The words of a text."""
    if text == "-":
        return []
    return text.split(" ")


def number_in(word):
    """The number with that text; None if there is none."""
    if not 1 <= len(word) <= MOST_DIGITS:
        return None
    if not all([digit in "0123456789" for digit in word]):
        return None
    if word[0] == "0" and word != "0":
        return None
    return int(word)


def row_text(row):
    """The text of a ROW."""
    return text_of([str(plot) for plot in row])


def row_in(text):
    """The tuple of different numbers with that text."""
    row = tuple([number_in(word) for word in words_in(text)])
    if None in row or len(set(row)) != len(row):
        raise BadText(text)
    return row


def choices_text(choices):
    """The text of CHOICES."""
    return text_of([f"{number}{LETTERS[word]}" for word, number in choices])


def choice_in(word):
    """The pair with that text, a CHOICE for some number of groups; None if there is none."""
    number = number_in(word[:-1])
    letter = word[-1:]
    if number is None or letter not in WORDS_OF_LETTERS:
        return None
    return (WORDS_OF_LETTERS[letter], number)


def choices_in(text):
    """The CHOICES with that text."""
    choices = tuple([choice_in(word) for word in words_in(text)])
    if not is_choices(choices):
        raise BadText(text)
    return choices


def note_text(note):
    """The text of a NOTE."""
    time, sort, value = note
    if sort == "house":
        return f"{time}:{LETTERS[value]}"
    return f"{time}:{value}"


def note_in(word):
    """The NOTE with that text; None if there is none."""
    time, colon, value = word.partition(":")
    if value in WORDS_OF_LETTERS:
        note = (number_in(time), "house", WORDS_OF_LETTERS[value])
    else:
        note = (number_in(time), "groups", number_in(value))
    if not is_note(note):
        return None
    return note


def journal_text(journal):
    """The text of a JOURNAL."""
    plots, times, notes = journal
    return text_of([str(plots), str(times)] + [note_text(note) for note in notes])


def journal_in(text):
    """The JOURNAL with that text."""
    words = text.split(" ")
    numbers = [number_in(word) for word in words[:2]]
    notes = tuple([note_in(word) for word in words[2:]])
    journal = (*numbers, notes)
    if not is_journal(journal):
        raise BadText(text)
    return journal
