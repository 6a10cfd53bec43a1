"""Rules of the language subset that can be checked file by file."""

import ast
import pathlib
import re
import unittest

PACKAGE = pathlib.Path(__file__).resolve().parent.parent / "enoughcame"
FILES = sorted(PACKAGE.glob("*.py"))

BARRED_WORDS = re.compile(
    r"\b(type|typing|typing_extensions|enum|Enum|IntEnum|StrEnum|Flag|IntFlag|Generic|Protocol|ABC|ABCMeta|namedtuple"
    r"|NamedTuple|TypedDict|TYPE_CHECKING|abstractmethod)\b|dataclass|overload|contextmanager")
BUILTINS = set(
    "len range enumerate zip min max sum abs sorted reversed int str bool bytes list tuple dict set frozenset isinstance"
    " ord repr any all divmod iter next super property staticmethod classmethod Exception ValueError TypeError KeyError"
    " IndexError LookupError ZeroDivisionError ArithmeticError OverflowError RuntimeError NotImplementedError"
    " AttributeError StopIteration NotImplemented".split())
DOUBLE_UNDERSCORES = re.compile(r"__[a-z]+__")


def names_bound(tree):
    """All names that a file binds, wherever it does so."""
    bound = set()
    for node in ast.walk(tree):
        if isinstance(node, (ast.FunctionDef, ast.ClassDef)):
            bound.add(node.name)
        elif isinstance(node, ast.arg):
            bound.add(node.arg)
        elif isinstance(node, ast.alias):
            bound.add(node.asname or node.name)
        elif isinstance(node, ast.Name) and not isinstance(node.ctx, ast.Load):
            bound.add(node.id)
        elif isinstance(node, ast.ExceptHandler) and node.name:
            bound.add(node.name)
    return bound


def methods_and_attributes():
    """The names of all methods and of all attributes that the files assign."""
    methods, attributes = set(), set()
    for _, node in nodes():
        if isinstance(node, ast.ClassDef):
            methods.update([part.name for part in node.body if isinstance(part, ast.FunctionDef)])
        elif isinstance(node, ast.Attribute) and isinstance(node.ctx, ast.Store):
            attributes.add(node.attr)
    return methods, attributes


def imports_of(path):
    """The files of the package that a file imports from."""
    return [node.module.partition(".")[2] for node in ast.walk(ast.parse(path.read_text()))
            if isinstance(node, ast.ImportFrom)]


def nodes():
    """All parts of all files, each with the name of its file."""
    return [(path.name, node) for path in FILES for node in ast.walk(ast.parse(path.read_text()))]


class Language(unittest.TestCase):
    def test_the_folder_holds_plain_files_alone(self):
        self.assertIn(PACKAGE / "__init__.py", FILES)
        for path in PACKAGE.iterdir():
            if path.name != "__pycache__":
                with self.subTest(path.name):
                    self.assertRegex(path.name, r"^([a-z][a-z0-9_]*|__init__|__main__)\.py$")

    def test_characters_words_and_sizes(self):
        for path in FILES:
            text = path.read_text()
            with self.subTest(path.name):
                self.assertRegex(text, r"\A[ -~\n]*\Z")
                self.assertIsNone(BARRED_WORDS.search(text))
                self.assertLessEqual(len(text.splitlines()), 400)
                self.assertLessEqual(max(map(len, text.splitlines())), 120)

    def test_imports_name_files_of_the_package(self):
        for name, node in nodes():
            self.assertNotIsInstance(node, ast.Import, name)
            if isinstance(node, ast.ImportFrom):
                self.assertEqual(node.level, 0, name)
                self.assertTrue((PACKAGE / (node.module.partition(".")[2] + ".py")).exists(), node.module)
                self.assertNotIn("*", [alias.name for alias in node.names], name)

    def test_imports_name_the_file_that_defines_the_name(self):
        for name, node in nodes():
            if isinstance(node, ast.ImportFrom):
                source = ast.parse((PACKAGE / (node.module.partition(".")[2] + ".py")).read_text())
                defined = [part.name for part in source.body if isinstance(part, (ast.FunctionDef, ast.ClassDef))]
                defined += [target.id for part in source.body if isinstance(part, ast.Assign)
                            for target in part.targets]
                for alias in node.names:
                    self.assertIn(alias.name, defined, name)

    def test_no_files_import_from_each_other(self):
        left = {path.stem: imports_of(path) for path in FILES}
        while left:
            free = [name for name, needed in left.items() if not set(needed) & set(left)]
            self.assertTrue(free, left)
            left = {name: needed for name, needed in left.items() if name not in free}

    def test_no_name_is_a_method_and_an_attribute(self):
        methods, attributes = methods_and_attributes()
        self.assertEqual(methods & attributes, set())

    def test_own_names_are_not_those_of_builtin_values(self):
        methods, attributes = methods_and_attributes()
        builtin = {name for value in ("", 0, [], {}, (), set(), b"") for name in dir(value)}
        self.assertEqual({name for name in methods | attributes if not DOUBLE_UNDERSCORES.fullmatch(name)} & builtin,
                         set())

    def test_no_variable_has_the_name_of_an_import_or_a_class(self):
        for path in FILES:
            tree = ast.parse(path.read_text())
            taken = {alias.name for node in tree.body if isinstance(node, ast.ImportFrom) for alias in node.names}
            taken |= {node.name for node in tree.body if isinstance(node, ast.ClassDef)}
            for node in ast.walk(tree):
                if isinstance(node, ast.arg):
                    self.assertNotIn(node.arg, taken, path.name)
                elif isinstance(node, ast.Name) and not isinstance(node.ctx, ast.Load):
                    self.assertNotIn(node.id, taken, path.name)

    def test_what_a_class_with_equality_rules_out(self):
        for name, node in nodes():
            self.assertNotIsInstance(node, (ast.GeneratorExp, ast.Match), name)
            self.assertFalse(isinstance(node, ast.Attribute) and node.attr == "sort", name)

    def test_is_stands_beside_none_true_and_false_alone(self):
        for name, node in nodes():
            if isinstance(node, ast.Compare):
                for sign, right in zip(node.ops, node.comparators):
                    if isinstance(sign, (ast.Is, ast.IsNot)):
                        self.assertIn(ast.unparse(right), ("None", "True", "False"), name)

    def test_functions_are_short(self):
        for name, node in nodes():
            if isinstance(node, ast.FunctionDef):
                self.assertLessEqual(node.end_lineno - node.lineno + 1, 40, (name, node.name))

    def test_no_barred_statement_or_sign(self):
        for name, node in nodes():
            self.assertNotIsInstance(node, (ast.Global, ast.AsyncFunctionDef, ast.Await, ast.Div), name)
            if isinstance(node, ast.Constant):
                self.assertNotIsInstance(node.value, float, name)
                self.assertNotIn("%", node.value if isinstance(node.value, str) else "", name)

    def test_names_are_plain(self):
        for path in FILES:
            for name in names_bound(ast.parse(path.read_text())):
                self.assertTrue(DOUBLE_UNDERSCORES.fullmatch(name) or not name.startswith("_"), (path.name, name))
                self.assertNotIn(name, BUILTINS, path.name)

    def test_only_the_builtins_listed(self):
        for path in FILES:
            tree = ast.parse(path.read_text())
            bound = names_bound(tree)
            for node in ast.walk(tree):
                if isinstance(node, ast.Name) and node.id not in bound:
                    self.assertIn(node.id, BUILTINS, path.name)


if __name__ == "__main__":
    unittest.main()
