"""Those rules of the language document that a short look at the files can see."""

import ast
import builtins
import pathlib
import re
import unittest

PACKAGE = pathlib.Path(__file__).resolve().parent.parent / "overhaul"
BUILTINS = set(
    "len range enumerate zip min max sum abs sorted reversed int str bool bytes list tuple dict set frozenset "
    "isinstance ord repr any all divmod Exception ValueError TypeError KeyError IndexError LookupError "
    "ZeroDivisionError ArithmeticError OverflowError RuntimeError NotImplementedError AttributeError "
    "StopIteration".split()
)
METHODS = {"__init__", "__eq__", "__repr__", "__str__", "__len__", "__enter__", "__exit__"}
WORDS = re.compile(
    r"\b(type|typing|typing_extensions|enum|Enum|IntEnum|StrEnum|Flag|IntFlag|Generic|Protocol|ABC|ABCMeta"
    r"|namedtuple|NamedTuple|TypedDict|TYPE_CHECKING|abstractmethod)\b|dataclass|overload|contextmanager"
)
BARRED = (ast.Div, ast.NamedExpr, ast.Global, ast.AsyncFunctionDef, ast.AsyncFor, ast.AsyncWith, ast.Await, ast.Import)


def files():
    return sorted(PACKAGE.rglob("*.py"))


def bound_names(tree):
    """Every name, attributes apart, that a file gives a meaning of its own."""
    for node in ast.walk(tree):
        if isinstance(node, ast.Name) and isinstance(node.ctx, ast.Store):
            yield node.id
        elif isinstance(node, ast.arg):
            yield node.arg
        elif isinstance(node, (ast.FunctionDef, ast.ClassDef)):
            yield node.name


class Language(unittest.TestCase):
    def test_the_folder_holds_its_files_alone(self):
        self.assertIn(PACKAGE / "__init__.py", files())
        others = [path for path in PACKAGE.rglob("*") if "__pycache__" not in path.parts and path.suffix != ".py"]
        self.assertEqual(others, [])
        for path in files():
            self.assertRegex(path.stem, r"^([a-z][a-z0-9_]*|__init__)$")

    def test_signs_and_sizes(self):
        for path in files():
            with self.subTest(path.name):
                text = path.read_text(encoding="utf-8")
                self.assertRegex(text, r"\A[ -~\n]*\Z")
                self.assertLessEqual(len(text.splitlines()), 400)
                self.assertLessEqual(max(len(line) for line in text.splitlines()), 120)
                for node in ast.walk(ast.parse(text)):
                    if isinstance(node, ast.FunctionDef):
                        self.assertLessEqual(node.end_lineno - node.lineno + 1, 40, node.name)

    def test_words_that_do_not_occur(self):
        for path in files():
            with self.subTest(path.name):
                text = path.read_text(encoding="utf-8")
                self.assertIsNone(WORDS.search(text))

    def test_imports_name_files_of_the_package(self):
        for path in files():
            with self.subTest(path.name):
                text = path.read_text(encoding="utf-8")
                for node in ast.walk(ast.parse(text)):
                    if isinstance(node, ast.ImportFrom):
                        self.assertEqual(node.level, 0)
                        source = PACKAGE.parent / (node.module.replace(".", "/") + ".py")
                        self.assertTrue(source.is_file(), node.module)
                        self.assertNotIn("*", [name.name for name in node.names])

    def test_no_barred_statement_or_value(self):
        for path in files():
            with self.subTest(path.name):
                text = path.read_text(encoding="utf-8")
                for node in ast.walk(ast.parse(text)):
                    self.assertNotIsInstance(node, BARRED)
                    if isinstance(node, ast.Constant):
                        self.assertNotIsInstance(node.value, (float, complex))
                        self.assertNotIn("%", node.value if isinstance(node.value, str) else "")
                    if isinstance(node, ast.Compare) and any(isinstance(op, (ast.Is, ast.IsNot)) for op in node.ops):
                        self.assertTrue(all(isinstance(right, ast.Constant) for right in node.comparators))

    def test_plain_names_that_are_no_builtins(self):
        for path in files():
            with self.subTest(path.name):
                text = path.read_text(encoding="utf-8")
                tree = ast.parse(text)
                methods = [node.name for group in ast.walk(tree) if isinstance(group, ast.ClassDef)
                           for node in group.body if isinstance(node, ast.FunctionDef)]
                for name in bound_names(tree):
                    if name not in METHODS:
                        self.assertRegex(name, r"^[A-Za-z][A-Za-z0-9_]*$")
                    if name not in methods:
                        self.assertFalse(hasattr(builtins, name), name)

    def test_plain_attributes(self):
        for path in files():
            with self.subTest(path.name):
                text = path.read_text(encoding="utf-8")
                for node in ast.walk(ast.parse(text)):
                    if isinstance(node, ast.Attribute) and node.attr not in METHODS:
                        self.assertRegex(node.attr, r"^[A-Za-z][A-Za-z0-9_]*$")

    def test_only_the_builtins_that_are_listed(self):
        for path in files():
            with self.subTest(path.name):
                text = path.read_text(encoding="utf-8")
                for node in ast.walk(ast.parse(text)):
                    if isinstance(node, ast.Name) and hasattr(builtins, node.id):
                        self.assertIn(node.id, BUILTINS)


if __name__ == "__main__":
    unittest.main()
