"""The rules of the language subset that can be read off the files of the package."""

import ast
import pathlib
import re
import unittest

PACKAGE = pathlib.Path(__file__).resolve().parent.parent / "onlygroups"

BARRED_WORDS = re.compile(
    r"\b(type|typing|typing_extensions|enum|Enum|IntEnum|StrEnum|Flag|IntFlag|Generic|Protocol|ABC|ABCMeta|namedtuple"
    r"|NamedTuple|TypedDict|TYPE_CHECKING|abstractmethod)\b|dataclass|overload|contextmanager")


def package_files():
    return sorted(PACKAGE.glob("*.py"))


class LanguageTests(unittest.TestCase):

    def test_folder_holds_plain_files_only(self):
        for path in PACKAGE.iterdir():
            if path.name != "__pycache__":
                self.assertRegex(path.name, r"\A(__init__|[a-z][a-z0-9_]*)\.py\Z")

    def test_characters_and_sizes(self):
        for path in package_files():
            text = path.read_bytes().decode("ascii")
            self.assertRegex(text, r"\A[ -~\n]*\Z", path.name)
            lines = text.splitlines()
            self.assertLessEqual(len(lines), 399, path.name)
            self.assertLessEqual(max(len(line) for line in lines), 120, path.name)

    def test_barred_words(self):
        for path in package_files():
            self.assertIsNone(BARRED_WORDS.search(path.read_text()), path.name)

    def test_functions_are_short(self):
        for path in package_files():
            for node in ast.walk(ast.parse(path.read_text())):
                if isinstance(node, ast.FunctionDef):
                    self.assertLessEqual(node.end_lineno - node.lineno + 1, 40, (path.name, node.name))

    def test_imports_name_the_defining_file(self):
        defined = {}
        for path in package_files():
            for node in ast.parse(path.read_text()).body:
                names = [node.name] if isinstance(node, (ast.FunctionDef, ast.ClassDef)) else []
                names += [target.id for target in node.targets] if isinstance(node, ast.Assign) else []
                defined.setdefault("onlygroups." + path.stem, []).extend(names)
        for path in package_files():
            for node in ast.walk(ast.parse(path.read_text())):
                self.assertNotIsInstance(node, ast.Import, path.name)
                if isinstance(node, ast.ImportFrom):
                    for name in node.names:
                        self.assertIn(name.name, defined[node.module], path.name)

    def test_strings_and_numbers(self):
        for path in package_files():
            for node in ast.walk(ast.parse(path.read_text())):
                self.assertNotIsInstance(node, ast.Div, path.name)
                if isinstance(node, ast.Constant):
                    self.assertNotIsInstance(node.value, float, path.name)
                    if isinstance(node.value, str):
                        self.assertNotIn("%", node.value, path.name)


if __name__ == "__main__":
    unittest.main()
