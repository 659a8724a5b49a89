"""The rules of the language subset that can be read off the files of the package."""

import ast
import builtins
import pathlib
import re
import unittest

PACKAGE = pathlib.Path(__file__).resolve().parent.parent / "onlygroups"

BARRED_WORDS = re.compile(
    r"\b(type|typing|typing_extensions|enum|Enum|IntEnum|StrEnum|Flag|IntFlag|Generic|Protocol|ABC|ABCMeta|namedtuple"
    r"|NamedTuple|TypedDict|TYPE_CHECKING|abstractmethod)\b|dataclass|overload|contextmanager")

BUILTINS = set(
    "len range enumerate zip min max sum abs sorted reversed int str bool list tuple dict set isinstance ord repr any all "
    "divmod ValueError LookupError RuntimeError OverflowError KeyError".split())
METHODS = set(
    "append clear copy count endswith extend find get index insert isalnum isalpha isdigit islower isspace isupper items "
    "join keys ljust lower lstrip partition pop remove replace reverse rfind rjust rpartition rsplit rstrip setdefault "
    "split splitlines startswith strip update upper values zfill bit_length".split())

INTERFACE = {
    "rows": "is_row groups houses mirrored",
    "choices": "is_choices is_gaps choices_of gaps_of row_of changed",
    "journals": "is_journal is_order journal_of with_note without_note",
    "verdicts": "evidence is_possible first_order",
    "numbers": "count_orders order_at number_of all_orders",
    "walks": "possible_groups count_walks orders_with likeliest",
    "chances": "group_chances mean_groups house_chances plot_chances together_chance",
    "street": "Street",
    "texts": "row_text choices_text journal_text row_in choices_in journal_in",
    "sheet": "answers",
    "errors": "BadText BadLine Impossible Misfit Noted NoPlot NoTime NoChoice NoNote NoNumber NoOperation Built TooMany",
}


def package_files():
    return sorted(PACKAGE.glob("*.py"))


class LanguageTests(unittest.TestCase):

    def test_folder_holds_plain_files_only(self):
        for path in PACKAGE.iterdir():
            if path.name != "__pycache__":
                self.assertRegex(path.name, r"\A(__init__|[a-z][a-z0-9_]*)\.py\Z")

    def test_characters_and_sizes(self):
        for path in package_files():
            text = path.read_bytes().decode("ascii")
            self.assertRegex(text, r"\A[ -~\n]*\Z", path.name)
            lines = text.splitlines()
            self.assertLessEqual(len(lines), 399, path.name)
            self.assertLessEqual(max(len(line) for line in lines), 120, path.name)

    def test_barred_words(self):
        for path in package_files():
            self.assertIsNone(BARRED_WORDS.search(path.read_text()), path.name)

    def test_functions_are_short(self):
        for path in package_files():
            for node in ast.walk(ast.parse(path.read_text())):
                if isinstance(node, ast.FunctionDef):
                    self.assertLessEqual(node.end_lineno - node.lineno + 1, 40, (path.name, node.name))

    def test_imports_name_the_defining_file(self):
        defined = {}
        for path in package_files():
            for node in ast.parse(path.read_text()).body:
                names = [node.name] if isinstance(node, (ast.FunctionDef, ast.ClassDef)) else []
                names += [target.id for target in node.targets] if isinstance(node, ast.Assign) else []
                defined.setdefault("onlygroups." + path.stem, []).extend(names)
        for path in package_files():
            for node in ast.walk(ast.parse(path.read_text())):
                self.assertNotIsInstance(node, ast.Import, path.name)
                if isinstance(node, ast.ImportFrom):
                    for name in node.names:
                        self.assertIn(name.name, defined[node.module], path.name)

    def test_strings_and_numbers(self):
        for path in package_files():
            for node in ast.walk(ast.parse(path.read_text())):
                self.assertNotIsInstance(node, ast.Div, path.name)
                if isinstance(node, ast.Constant):
                    self.assertNotIsInstance(node.value, float, path.name)
                    if isinstance(node.value, str):
                        self.assertNotIn("%", node.value, path.name)

    def test_no_generator_expressions(self):
        for path in package_files():
            for node in ast.walk(ast.parse(path.read_text())):
                self.assertNotIsInstance(node, (ast.GeneratorExp, ast.SetComp, ast.Global, ast.Yield), path.name)

    def test_no_name_is_a_method_and_an_attribute(self):
        methods, attributes = set(), set()
        for path in package_files():
            for node in ast.walk(ast.parse(path.read_text())):
                if isinstance(node, ast.ClassDef):
                    methods |= {part.name for part in node.body if isinstance(part, ast.FunctionDef)}
                if isinstance(node, ast.Attribute) and isinstance(node.ctx, ast.Store):
                    attributes.add(node.attr)
        self.assertEqual(methods & attributes, set())

    def test_local_names_hide_nothing(self):
        for path in package_files():
            tree = ast.parse(path.read_text())
            taken = set(dir(builtins))
            for node in tree.body:
                taken |= {name.name for name in node.names} if isinstance(node, ast.ImportFrom) else set()
                taken |= {node.name} if isinstance(node, (ast.ClassDef, ast.FunctionDef)) else set()
            for node in ast.walk(tree):
                if isinstance(node, ast.arg):
                    self.assertNotIn(node.arg, taken, path.name)
                if isinstance(node, ast.Name) and isinstance(node.ctx, ast.Store):
                    self.assertNotIn(node.id, taken, path.name)

    def test_builtins(self):
        for path in package_files():
            for node in ast.walk(ast.parse(path.read_text())):
                if isinstance(node, ast.Name) and node.id in dir(builtins):
                    self.assertIn(node.id, BUILTINS, path.name)

    def test_methods(self):
        own = set()
        for path in package_files():
            for node in ast.walk(ast.parse(path.read_text())):
                if isinstance(node, ast.ClassDef):
                    own |= {part.name for part in node.body if isinstance(part, ast.FunctionDef)}
        for path in package_files():
            for node in ast.walk(ast.parse(path.read_text())):
                if isinstance(node, ast.Call) and isinstance(node.func, ast.Attribute):
                    self.assertIn(node.func.attr, METHODS | own, path.name)

    def test_interface_is_defined_where_it_is_listed(self):
        for stem, names in INTERFACE.items():
            body = ast.parse((PACKAGE / (stem + ".py")).read_text()).body
            defined = [node.name for node in body if isinstance(node, (ast.FunctionDef, ast.ClassDef))]
            for name in names.split():
                self.assertIn(name, defined, stem)

    def test_no_two_files_import_from_each_other(self):
        needs = {}
        for path in package_files():
            nodes = ast.walk(ast.parse(path.read_text()))
            needs[path.stem] = {node.module.split(".")[-1] for node in nodes if isinstance(node, ast.ImportFrom)}
        while needs:
            free = [name for name in needs if not needs[name] & set(needs)]
            self.assertTrue(free, needs)
            needs = {name: needs[name] for name in needs if name not in free}


if __name__ == "__main__":
    unittest.main()
