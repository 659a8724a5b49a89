"""The rules of the language subset that can be read off the files of the package."""

import ast
import builtins
import pathlib
import re
import unittest

PACKAGE = pathlib.Path(__file__).resolve().parent.parent / "onlygroups"

BARRED_WORDS = re.compile(
    r"\b(type|typing|typing_extensions|enum|Enum|IntEnum|StrEnum|Flag|IntFlag|Generic|Protocol|ABC|ABCMeta|namedtuple"
    r"|NamedTuple|TypedDict|TYPE_CHECKING|abstractmethod)\b|dataclass|overload|contextmanager")


def package_files():
    return sorted(PACKAGE.glob("*.py"))


class LanguageTests(unittest.TestCase):

    def test_folder_holds_plain_files_only(self):
        for path in PACKAGE.iterdir():
            if path.name != "__pycache__":
                self.assertRegex(path.name, r"\A(__init__|[a-z][a-z0-9_]*)\.py\Z")

    def test_characters_and_sizes(self):
        for path in package_files():
            text = path.read_bytes().decode("ascii")
            self.assertRegex(text, r"\A[ -~\n]*\Z", path.name)
            lines = text.splitlines()
            self.assertLessEqual(len(lines), 399, path.name)
            self.assertLessEqual(max(len(line) for line in lines), 120, path.name)

    def test_barred_words(self):
        for path in package_files():
            self.assertIsNone(BARRED_WORDS.search(path.read_text()), path.name)

    def test_functions_are_short(self):
        for path in package_files():
            for node in ast.walk(ast.parse(path.read_text())):
                if isinstance(node, ast.FunctionDef):
                    self.assertLessEqual(node.end_lineno - node.lineno + 1, 40, (path.name, node.name))

    def test_imports_name_the_defining_file(self):
        defined = {}
        for path in package_files():
            for node in ast.parse(path.read_text()).body:
                names = [node.name] if isinstance(node, (ast.FunctionDef, ast.ClassDef)) else []
                names += [target.id for target in node.targets] if isinstance(node, ast.Assign) else []
                defined.setdefault("onlygroups." + path.stem, []).extend(names)
        for path in package_files():
            for node in ast.walk(ast.parse(path.read_text())):
                self.assertNotIsInstance(node, ast.Import, path.name)
                if isinstance(node, ast.ImportFrom):
                    for name in node.names:
                        self.assertIn(name.name, defined[node.module], path.name)

    def test_strings_and_numbers(self):
        for path in package_files():
            for node in ast.walk(ast.parse(path.read_text())):
                self.assertNotIsInstance(node, ast.Div, path.name)
                if isinstance(node, ast.Constant):
                    self.assertNotIsInstance(node.value, float, path.name)
                    if isinstance(node.value, str):
                        self.assertNotIn("%", node.value, path.name)

    def test_no_generator_expressions(self):
        for path in package_files():
            for node in ast.walk(ast.parse(path.read_text())):
                self.assertNotIsInstance(node, (ast.GeneratorExp, ast.SetComp, ast.Global, ast.Yield), path.name)

    def test_no_name_is_a_method_and_an_attribute(self):
        methods, attributes = set(), set()
        for path in package_files():
            for node in ast.walk(ast.parse(path.read_text())):
                if isinstance(node, ast.ClassDef):
                    methods |= {part.name for part in node.body if isinstance(part, ast.FunctionDef)}
                if isinstance(node, ast.Attribute) and isinstance(node.ctx, ast.Store):
                    attributes.add(node.attr)
        self.assertEqual(methods & attributes, set())

    def test_local_names_hide_nothing(self):
        for path in package_files():
            tree = ast.parse(path.read_text())
            taken = set(dir(builtins))
            for node in tree.body:
                taken |= {name.name for name in node.names} if isinstance(node, ast.ImportFrom) else set()
                taken |= {node.name} if isinstance(node, (ast.ClassDef, ast.FunctionDef)) else set()
            for node in ast.walk(tree):
                if isinstance(node, ast.arg):
                    self.assertNotIn(node.arg, taken, path.name)
                if isinstance(node, ast.Name) and isinstance(node.ctx, ast.Store):
                    self.assertNotIn(node.id, taken, path.name)

    def test_no_two_files_import_from_each_other(self):
        needs = {}
        for path in package_files():
            nodes = ast.walk(ast.parse(path.read_text()))
            needs[path.stem] = {node.module.split(".")[-1] for node in nodes if isinstance(node, ast.ImportFrom)}
        while needs:
            free = [name for name in needs if not needs[name] & set(needs)]
            self.assertTrue(free, needs)
            needs = {name: needs[name] for name in needs if name not in free}


if __name__ == "__main__":
    unittest.main()
