import unittest

from onlygroups import errors
from onlygroups.most import MOST

# Each error class with its built-in class and its attribute.
CLASSES = [
    ("BadText", ValueError, "text"),
    ("BadLine", ValueError, "number"),
    ("Impossible", ValueError, "evidence"),
    ("Misfit", ValueError, "time"),
    ("Noted", ValueError, "note"),
    ("NoPlot", LookupError, "plot"),
    ("NoTime", LookupError, "time"),
    ("NoChoice", LookupError, "number"),
    ("NoNote", LookupError, "note"),
    ("NoNumber", LookupError, "number"),
    ("NoOperation", LookupError, "many"),
    ("Built", RuntimeError, "plot"),
    ("TooMany", OverflowError, "many"),
]

VALUES = {
    "text": ["", "0n 0b", "x" * 300],
    "evidence": [("stuck", 0), ("room", 3)],
    "note": [(3, "groups", 1), (0, "house", "new")],
}
NUMBERS = [0, 7, -1, 10 ** 5000, -(10 ** 5000)]


class ErrorTests(unittest.TestCase):

    def test_classes_are_the_thirteen(self):
        found = [name for name, value in vars(errors).items()
                 if isinstance(value, type) and issubclass(value, BaseException)]
        self.assertEqual(sorted(found), sorted(name for name, base, attribute in CLASSES))

    def test_direct_base_class(self):
        for name, base, attribute in CLASSES:
            error_class = getattr(errors, name)
            self.assertEqual(error_class.__bases__, (base,), name)
            self.assertEqual(error_class.__module__, "onlygroups.errors")
            self.assertEqual(error_class.__name__, name)

    def test_attribute_by_position_and_by_name(self):
        for name, base, attribute in CLASSES:
            error_class = getattr(errors, name)
            for value in VALUES.get(attribute, NUMBERS):
                for error in (error_class(value), error_class(**{attribute: value})):
                    stored = getattr(error, attribute)
                    self.assertEqual(type(stored), type(value))
                    self.assertTrue(stored == value, name)
                    self.assertIn(attribute, vars(error))

    def test_needs_its_value(self):
        for name, base, attribute in CLASSES:
            error_class = getattr(errors, name)
            with self.assertRaises(TypeError):
                error_class()
            with self.assertRaises(TypeError):
                error_class(1, 2)
            with self.assertRaises(TypeError):
                error_class(other=1)

    def test_can_be_raised_and_caught(self):
        for name, base, attribute in CLASSES:
            error_class = getattr(errors, name)
            with self.assertRaises(base) as caught:
                raise error_class(5)
            self.assertEqual(getattr(caught.exception, attribute), 5)

    def test_list_stands_for_tuple_and_is_copied(self):
        for error_class, attribute, value in (
                (errors.Noted, "note", [3, "groups", 1]),
                (errors.NoNote, "note", [0, "house", "new"]),
                (errors.Impossible, "evidence", ["stuck", 2])):
            expected = tuple(value)
            for error in (error_class(value), error_class(**{attribute: value})):
                value.append(9)
                self.assertEqual(getattr(error, attribute), expected)
                value.pop()


class MostTests(unittest.TestCase):

    def test_most(self):
        self.assertEqual(MOST, 300)
        self.assertIs(type(MOST), int)


if __name__ == "__main__":
    unittest.main()
