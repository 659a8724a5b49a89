import random
import unittest

from onlygroups.choices import choices_of
from onlygroups.errors import BadLine
from onlygroups.sheet import answers
from onlygroups.street import Street
from onlygroups.texts import choices_text, journal_text, note_text, row_text
from onlygroups.verdicts import first_order
from onlygroups.walks import possible_groups
from tests.calls import check_call, check_error, check_parameters, raised, same_kind

# Lines that are written as they must be, in any street.
GOOD_LINES = [
    "build 0", "build 9999999999", "build_all -", "build_all 0", "build_all 3 1 2", "build_all 9999999999 0",
    "count 0", "count 9999999999", "look 0", "look 9999999999", "forget 0:1", "forget 2:s", "forget 0:n", "forget 7:b",
    "forget 9999999999:9999999999", "turn", "undo", "show", "row", "choices", "orders", "first", "when 0",
    "when 9999999999",
]

NO_NUMBERS = ["", " ", "-", "--", "x", "-1", "+1", "00", "01", "007", "1.0", "0x1", "1_0", "1e1", "10000000000", "1 2", "0 ",
              " 0", "1:1", "n", "~"]
NO_ROWS = ["", " ", "--", "- -", "- 0", "0 -", "0 0", "1 2 1", "0  1", " 0", "0 ", "01", "0,1", "x", "0 x", "10000000000",
           "-1", "0 -1"]
NO_NOTES = ["", " ", "-", "1", "1:", ":1", ":", "1:0", "1:x", "1:new", "1:N", "n:1", "01:1", "1:01", "-1:1", "1:-1", "1 :1",
            "1: 1", " 1:1", "1:1 ", "1:1 2:1", "1:1:1", "1:ss", "10000000000:1", "1:10000000000", "1:s:"]


def plain_answer(street, line):
    """What a line must be answered, by a street and the functions."""
    word, blank, rest = line.partition(" ")
    try:
        if word == "build":
            return str(street.build(int(rest)))
        if word == "build_all":
            return str(street.build_all([] if rest == "-" else [int(plot) for plot in rest.split(" ")]))
        if word in ("count", "look"):
            return str(street.note_down(int(rest), {"count": "groups", "look": "house"}[word])[2])
        if word == "forget":
            return str(street.forget(plain_note(rest)))
        if word == "undo":
            return {True: "yes", False: "no"}[street.undo()]
        if word == "turn":
            return {None: "done"}[street.turn()]
        return plain_query(street, word, rest)
    except (ValueError, LookupError, RuntimeError) as error:
        return "error " + type(error).__name__


def plain_note(text):
    time, colon, value = text.partition(":")
    words = {"n": "new", "s": "beside", "b": "between"}
    return (int(time), "house", words[value]) if value in words else (int(time), "groups", int(value))


def plain_query(street, word, rest):
    if word == "when":
        after = possible_groups(street.journal())
        return " ".join(str(many) for many in after[int(rest)]) if int(rest) < len(after) else "error NoTime"
    return {
        "show": lambda: journal_text(street.journal()),
        "row": lambda: row_text(street.row()),
        "choices": lambda: choices_text(choices_of(street.row())),
        "orders": lambda: str(street.count()),
        "first": lambda: row_text(first_order(street.journal())),
    }[word]()


def any_line(source, plots, street):
    """A line that fits a street or fails on it."""
    word = source.choice(["build"] * 4 + ["build_all"] * 2 + ["count"] * 3 + ["look"] * 3 + ["forget", "forget", "turn", "undo"]
                         + ["show", "row", "choices", "orders", "first", "when", "when"])
    if word == "build":
        return f"build {source.randrange(plots + 2)}"
    if word == "build_all":
        return "build_all " + row_text(source.sample(range(plots + 3), source.randrange(3)))
    if word in ("count", "look", "when"):
        return f"{word} {source.randrange(len(street) + 1)}"
    if word == "forget":
        return "forget " + note_text(source.choice(list(street.journal()[2]) + [(0, "groups", 1), (1, "house", "between")]))
    return word


def any_sheet(source, plots, many):
    """So many lines, the first one included, and their answers."""
    street = Street(plots)
    lines, expected = [f"street {plots}"], []
    for step in range(many - 1):
        lines.append(any_line(source, plots, street))
        expected.append(plain_answer(street, lines[-1]))
    return lines, expected


class SheetExamples(unittest.TestCase):

    def test_examples(self):
        self.assertEqual(
            answers("street 5\nbuild_all 0 2\ncount 1\nbuild 1\nbuild 3\ncount 3\nshow\norders\nwhen 2\nlook 2\ncount 3\n"
                    "turn\nrow\nfirst"),
            ["2", "2", "1", "1", "1", "5 4 1:2 3:1", "24", "1 2", "between", "error Noted", "done", "4 2 3 1", "3 1 2 0"])
        self.assertEqual(raised(self, BadLine, "number", lambda: answers("street 5\nbuild x")), 1)


class AnswerTests(unittest.TestCase):

    def check(self, plots, lines, expected):
        check_call(self, answers, {"text": "\n".join([f"street {plots}"] + lines)}, expected)

    def test_parameters(self):
        check_parameters(self, answers, ["text"])

    def test_first_line_alone(self):
        for plots in range(17):
            self.check(plots, [], [])

    def test_every_line(self):
        self.check(5, ["build 3"], ["1"])
        self.check(5, ["build_all 3 0 1"], ["2"])
        self.check(5, ["build_all -", "build 0", "build_all -"], ["0", "1", "1"])
        self.check(5, ["build_all 0 2", "count 1", "count 0", "show"], ["2", "2", "1", "5 2 0:1 1:2"])
        self.check(5, ["build_all 0 2 1 3", "look 1", "look 2", "look 3", "show"],
                   ["1", "new", "between", "beside", "5 4 1:n 2:b 3:s"])
        self.check(3, ["build_all 0 2", "count 1", "orders", "forget 1:2", "orders"], ["2", "2", "2", "6", "6"])
        self.check(3, ["build_all 0 2 1", "look 2", "orders", "forget 2:b"], ["1", "between", "2", "6"])
        self.check(5, ["build_all 0 2 1", "turn", "row", "turn", "row"], ["1", "done", "4 2 3", "done", "0 2 1"])
        self.check(5, ["undo", "build 1", "undo", "undo", "row"], ["no", "1", "yes", "no", "-"])
        self.check(5, ["build_all 0 2 1 3", "choices", "row"], ["1", "0n 1n 0b 1s", "0 2 1 3"])
        self.check(16, ["build_all 0 1 2 3 4 5 6 7 8 9 10 11 12 13 14 15", "orders", "first"],
                   ["1", "20922789888000", "15 14 13 12 11 10 9 8 7 6 5 4 3 2 1 0"])
        self.check(5, ["build_all 0 2 1 3", "when 0", "when 1", "when 2", "when 3"], ["1", "1", "1 2", "1 2 3", "1 2"])

    def test_nothing_built(self):
        for plots in (0, 1, 16):
            self.check(plots, ["show", "row", "choices", "orders", "first", "undo", "build_all -", "turn"],
                       [f"{plots} 0", "-", "-", "1", "-", "no", "0", "done"])

    def test_errors_by_the_class_name(self):
        self.check(5, ["build 5", "build 9999999999", "build 0", "build 0"],
                   ["error NoPlot", "error NoPlot", "1", "error Built"])
        self.check(5, ["build_all 0 1 5", "row", "build 1", "build_all 0 1 5", "build_all 0 9 1", "row"],
                   ["error NoPlot", "-", "1", "error Built", "error NoPlot", "1"])
        self.check(5, ["count 0", "look 0", "when 0", "build 2", "count 1", "look 1", "when 1", "when 9999999999"],
                   ["error NoTime"] * 3 + ["1"] + ["error NoTime"] * 4)
        self.check(5, ["build 2", "count 0", "count 0", "look 0", "look 0", "count 1"],
                   ["1", "1", "error Noted", "new", "error Noted", "error NoTime"])
        self.check(5, ["forget 0:1", "build 2", "count 0", "forget 0:2", "forget 0:n", "forget 9999999999:s", "forget 0:1"],
                   ["error NoNote", "1", "1", "error NoNote", "error NoNote", "error NoNote", "5"])

    def test_failed_lines_are_no_operations(self):
        self.check(5, ["build 2", "build 2", "build 7", "undo", "row", "undo"],
                   ["1", "error Built", "error NoPlot", "yes", "-", "no"])
        self.check(5, ["build 2", "when 4", "show", "first", "undo", "undo"],
                   ["1", "error NoTime", "5 1", "0", "yes", "no"])

    def test_empty_lines_are_skipped(self):
        check_call(self, answers, {"text": "\n\nstreet 3\n\n\nbuild 0\n\nrow\n\n"}, ["1", "0"])
        check_call(self, answers, {"text": "street 3\n"}, [])

    def test_good_lines(self):
        for line in GOOD_LINES:
            for plots in (0, 5, 16):
                self.check(plots, [line], [plain_answer(Street(plots), line)])

    def test_like_a_street_and_the_functions(self):
        source = random.Random(14)
        found = set()
        for plots in (0, 1, 2, 3, 4, 5, 8, 16):
            for attempt in range(12):
                lines, expected = any_sheet(source, plots, 30)
                check_call(self, answers, {"text": "\n".join(lines)}, expected)
                found.update(zip([line.partition(" ")[0] for line in lines[1:]], expected))
        errors = {(word, answer[6:]) for word, answer in found if answer.startswith("error ")}
        self.assertEqual(errors, {
            ("build", "NoPlot"), ("build", "Built"), ("build_all", "NoPlot"), ("build_all", "Built"), ("count", "NoTime"),
            ("count", "Noted"), ("look", "NoTime"), ("look", "Noted"), ("forget", "NoNote"), ("when", "NoTime")})
        self.assertEqual({word for word, answer in found}, {line.partition(" ")[0] for line in GOOD_LINES})

    def test_sixty_lines(self):
        source = random.Random(60)
        for plots in (5, 16):
            for attempt in range(5):
                lines, expected = any_sheet(source, plots, 60)
                self.assertEqual(len(expected), 59)
                self.assertTrue(same_kind(answers("\n".join(lines)), expected))

    def test_the_street_is_new_each_time(self):
        text = "street 3\nundo\nbuild 0\nlook 0\nshow"
        for attempt in range(3):
            found = answers(text)
            self.assertEqual(found, ["no", "1", "new", "3 1 0:n"])
            found.clear()


class BadLineTests(unittest.TestCase):

    def check(self, text, number):
        check_error(self, answers, {"text": text}, BadLine, "number", number)

    def test_empty_lines_alone(self):
        for many in range(1, 8):
            self.check("\n" * (many - 1), many)

    def test_first_line(self):
        for line in ["street", "street ", "street 17", "street 100", "street 9999999999", "street 05", "street 00",
                     "street  5", "street 5 ", " street 5", "street 5 5", "street -1", "street x", "street -", "street5",
                     "Street 5", "streets 5", "STREET 5", "5", " ", "-", "street\t5", "street 10000000000", "street 1.0"]:
            self.check(line, 0)
            self.check(line + "\nbuild 0", 0)
            self.check("\n\n" + line + "\nbuild 0", 2)
            self.check("\n" + line + "\nbuild x", 1)
        for line in GOOD_LINES:
            self.check(line, 0)
            self.check("\n" + line + "\nstreet 5", 1)

    def test_street_stands_first_only(self):
        self.check("street 5\nstreet 5", 1)
        self.check("street 5\n\nbuild 0\n\nstreet 5\n", 4)

    def check_line(self, line):
        """A line that is not written as it must be, in several places."""
        self.check("street 5\n" + line, 1)
        self.check("street 5\n\nbuild 0\nbuild 0\n" + line + "\nrow", 4)
        self.check("\nstreet 5\n" + line + "\n" + line, 2)

    def test_wrong_numbers(self):
        for word in ("build", "count", "look", "when"):
            for rest in NO_NUMBERS:
                self.check_line(f"{word} {rest}")

    def test_wrong_rows(self):
        for rest in NO_ROWS:
            self.check_line("build_all " + rest)

    def test_wrong_notes(self):
        for rest in NO_NOTES:
            self.check_line("forget " + rest)

    def test_blanks(self):
        for line in GOOD_LINES:
            for wrong in (" " + line, line + " ", line + "\t", line + "\r"):
                self.check_line(wrong)
            if " " in line:
                self.check_line(line.replace(" ", "  ", 1))
                self.check_line(line.replace(" ", "", 1))
                self.check_line(line.replace(" ", "\t", 1))
                self.check_line(line.partition(" ")[0])
            else:
                for rest in (" 0", " -", " x", "s", " " + line):
                    self.check_line(line + rest)
        self.check_line(" ")
        self.check_line("  ")

    def test_other_words(self):
        for word in ("", "x", "Build", "BUILD", "builds", "note_down", "groups", "journal", "empty", "operations", "as_of",
                     "twin", "log", "answers", "error", "done", "yes", "no", "-", "0"):
            for rest in (" 0", " ", " 0:1", " -"):
                self.check_line(word + rest)
            if word:
                self.check_line(word)

    def test_first_of_several(self):
        self.check("street 5\nbuild 0\nbuild x\nturn x\nstreet", 2)
        self.check("street 5\nbuild 9\nbuild 9\n\ncount\nlook", 4)

    def test_before_anything_is_done(self):
        # The line with the error stands before the one that is not written so, and is not answered.
        self.check("street 5\nbuild 99\nturn\nbuild", 3)


if __name__ == "__main__":
    unittest.main()
