import unittest

from onlygroups.choices import choices_of
from onlygroups.errors import BadText
from onlygroups.journals import with_note
from onlygroups.texts import choices_in, choices_text, journal_in, journal_text, row_in, row_text
from tests.calls import check_call, check_error, check_parameters, raised, same_kind
from tests.streets import all_choices, all_streets, plain_choices, plain_notes, some_journals

LANE = (5, 4, ((1, "groups", 2), (3, "groups", 1)))
LETTERS = {"new": "n", "beside": "s", "between": "b"}

# What is no number in a text, of any kind of text.
NO_NUMBERS = ["", "00", "01", "007", "-0", "-1", "+1", "1.0", "1_0", "0x1", "1e1", "10000000000", "99999999999",
              "x", "--", "1-", "1,2", "\t1", "1\n", "1\r", "\x001", "1\x7f", "~", "(1)", "'1'", "None", "True"]


class TextExamples(unittest.TestCase):

    def test_examples(self):
        self.assertEqual(
            (row_text((0, 2, 1)), choices_text(choices_of((0, 2, 1, 3))),
             journal_text(with_note(LANE, (2, "house", "beside")))),
            ("0 2 1", "0n 1n 0b 1s", "5 4 1:2 2:s 3:1"))
        self.assertEqual(
            (choices_in("0n 1s"), journal_in("5 4 1:2 3:1") == LANE, row_in("-")),
            ((("new", 0), ("beside", 1)), True, ()))
        self.assertEqual(raised(self, BadText, "text", lambda: choices_in("0n 0b")), "0n 0b")


class TextTests(unittest.TestCase):

    def check_bad(self, function, texts):
        for text in texts:
            check_error(self, function, {"text": text}, BadText, "text", text)

    def check_blanks(self, function, text):
        """Blanks at an end, twice between two words, or of another kind make it no text of a value."""
        self.check_bad(function, [" " + text, text + " ", " " + text + " ", text + "\n", "\n" + text, text + "\t"])
        if " " in text:
            for blank in ("  ", "\t", "\n", " \n", "\t ", ", ", "   "):
                self.check_bad(function, [text.replace(" ", blank, 1), text.replace(" ", blank)])


class ParameterTests(unittest.TestCase):

    def test_parameters(self):
        check_parameters(self, row_text, ["row"])
        check_parameters(self, choices_text, ["choices"])
        check_parameters(self, journal_text, ["journal"])
        for function in (row_in, choices_in, journal_in):
            check_parameters(self, function, ["text"])


class RowTextTests(TextTests):

    def test_there_and_back(self):
        for plots, row in all_streets():
            text = " ".join(str(plot) for plot in row) or "-"
            check_call(self, row_text, {"row": row}, text)
            check_call(self, row_in, {"text": text}, row)

    def test_any_different_numbers(self):
        check_call(self, row_in, {"text": "9999999999 0 17 1000000000"}, (9999999999, 0, 17, 1000000000))
        check_call(self, row_in, {"text": "0"}, (0,))
        check_call(self, row_in, {"text": "10"}, (10,))
        many = tuple(range(1000))
        self.assertEqual(row_in(row_text(many)), many)

    def test_bad_numbers(self):
        for word in NO_NUMBERS:
            self.check_bad(row_in, [word, "0 " + word, word + " 0", "3 " + word + " 4"])

    def test_same_number_twice(self):
        self.check_bad(row_in, ["0 0", "1 2 1", "9999999999 9999999999", "5 4 3 2 1 0 5"])

    def test_hyphen_stands_alone(self):
        self.check_bad(row_in, ["- 0", "0 -", "- -", "--", " -", "- ", "-\n"])

    def test_blanks(self):
        for text in ("0", "0 2 1", "-"):
            self.check_blanks(row_in, text)
        self.check_bad(row_in, ["", " ", "  ", "\n"])


class ChoicesTextTests(TextTests):

    def test_every_choices(self):
        for times in range(5):
            for choices, many in all_choices(times):
                text = " ".join(str(number) + LETTERS[word] for word, number in choices) or "-"
                check_call(self, choices_text, {"choices": choices}, text)
                check_call(self, choices_in, {"text": text}, choices)

    def test_great_streets(self):
        for plots, row in all_streets():
            choices = plain_choices(plots, row)
            self.assertTrue(same_kind(choices_in(choices_text(choices)), choices))

    def test_choices_that_are_none(self):
        self.check_bad(choices_in, ["1n", "0s", "0b", "0n 2n", "0n 2s", "0n 0b", "0n 1n 1b", "0n 0n 0b 0b",
                                    "0n 9999999999n", "0n 1n 0b 2s", "0n 4n 0n"])

    def test_bad_numbers(self):
        for word in NO_NUMBERS:
            for letter in "nsb":
                self.check_bad(choices_in, [word + letter, "0n " + word + letter, "0n " + word + letter + " 0n"])

    def test_bad_letters(self):
        for letter in ("", "N", "S", "B", "x", "new", "beside", "nn", "ns", "0", ":n", "-", "\n", "n\n"):
            self.check_bad(choices_in, ["0" + letter, "0n 0" + letter, "0" + letter + " 0n"])
        self.check_bad(choices_in, ["n", "s", "b", "n0", "0 n", "0n n", "0n 1 s"])

    def test_hyphen_stands_alone(self):
        self.check_bad(choices_in, ["- 0n", "0n -", "--", " -", "- ", "-n"])

    def test_blanks(self):
        for text in ("0n", "0n 1n 0b 1s", "-"):
            self.check_blanks(choices_in, text)
        self.check_bad(choices_in, ["", " ", "  "])


class JournalTextTests(TextTests):

    def plain_text(self, journal):
        text = f"{journal[0]} {journal[1]}"
        for time, sort, value in journal[2]:
            text += f" {time}:{LETTERS.get(value, value)}"
        return text

    def test_there_and_back(self):
        for plots in range(17):
            for times in range(plots + 1):
                for journal in some_journals(plots, times, 3):
                    if all(note[2] != 10 ** 30 for note in journal[2]):
                        check_call(self, journal_text, {"journal": journal}, self.plain_text(journal))
                        check_call(self, journal_in, {"text": self.plain_text(journal)}, journal)

    def test_every_note_of_a_row(self):
        for plots, row in all_streets():
            journal = (plots, len(row), tuple(plain_notes(plots, row)))
            self.assertTrue(same_kind(journal_in(journal_text(journal)), journal))

    def test_without_notes(self):
        check_call(self, journal_text, {"journal": (0, 0, ())}, "0 0")
        check_call(self, journal_in, {"text": "0 0"}, (0, 0, ()))

    def test_great_numbers(self):
        check_call(
            self, journal_in, {"text": "9999999999 9999999999 0:9999999999 9999999998:b"},
            (9999999999, 9999999999, ((0, "groups", 9999999999), (9999999998, "house", "between"))))

    def test_texts_of_no_journal(self):
        self.check_bad(journal_in, ["", "-", "5", "3 4", "0 1", "5 4 -", "- -", "5 4 4:1", "5 4 9999999999:1",
                                    "5 0 0:1", "5 4 0:0", "5 4 0:n 0:0", "4:5", "5 4:1", "0:1 5 4", "5 4 3", "street 5"])

    def test_notes_not_ascending(self):
        self.check_bad(journal_in, ["5 4 3:1 1:2", "5 4 1:s 1:2", "5 4 1:2 1:2", "5 4 1:1 1:2", "5 4 1:2 1:1",
                                    "5 4 1:s 1:n", "5 4 1:n 1:s", "5 4 1:n 1:n", "5 4 0:1 2:1 1:1"])
        check_call(self, journal_in, {"text": "5 4 1:2 1:s"}, (5, 4, ((1, "groups", 2), (1, "house", "beside"))))

    def test_bad_numbers(self):
        for word in NO_NUMBERS:
            self.check_bad(journal_in, [word, word + " 0", "5 " + word, "5 4 " + word + ":1", "5 4 1:" + word,
                                        "5 4 " + word + ":n", "5 4 0:1 1:" + word + " 2:1"])

    def test_bad_notes(self):
        for note in ("1", "1:", ":1", ":", "::", "1::1", "1:1:1", "1:1n", "1:n1", "1:N", "1:x", "1:new", "1:sn", "1;1",
                     "1=1", "n", "1n", "n:1", "1:groups", "1 :1", "1: 1", "1:-"):
            self.check_bad(journal_in, ["5 4 " + note, "5 4 0:1 " + note, "5 4 " + note + " 3:1"])

    def test_blanks(self):
        for text in ("0 0", "5 4 1:2 3:1", "5 4 1:s"):
            self.check_blanks(journal_in, text)
        self.check_bad(journal_in, [" ", "  ", "5 ", " 5", "5 4 "])


if __name__ == "__main__":
    unittest.main()
