"""Those rules of the language document that a short look at the files can see."""

import ast
import builtins
import pathlib
import re
import unittest

PACKAGE = pathlib.Path(__file__).resolve().parent.parent / "overhaul"
BUILTINS = set(
    "len range enumerate zip min max sum abs sorted reversed int str bool bytes list tuple dict set frozenset "
    "isinstance ord repr any all divmod Exception ValueError TypeError KeyError IndexError LookupError "
    "ZeroDivisionError ArithmeticError OverflowError RuntimeError NotImplementedError AttributeError "
    "StopIteration".split()
)
METHODS = {"__init__", "__eq__", "__repr__", "__str__", "__len__", "__enter__", "__exit__"}
WORDS = re.compile(
    r"\b(type|typing|typing_extensions|enum|Enum|IntEnum|StrEnum|Flag|IntFlag|Generic|Protocol|ABC|ABCMeta"
    r"|namedtuple|NamedTuple|TypedDict|TYPE_CHECKING|abstractmethod)\b|dataclass|overload|contextmanager"
)
LIST_METHODS = set(
    "append clear copy count endswith extend find get index insert isalnum isalpha isdigit islower isspace isupper "
    "items join keys ljust lower lstrip partition pop remove replace reverse rfind rjust rpartition rsplit rstrip "
    "setdefault split splitlines startswith strip update upper values zfill bit_length".split()
)
NO_ATTRIBUTES = set(
    "items keys values pop update append clear extend insert remove reverse setdefault sort args encode decode hex "
    "fromhex format format_map mro register elements open input".split()
)
TAKERS = ("list", "tuple", "dict", "sorted", "sum", "any", "all", "enumerate", "zip")
MODULE_LEVEL = (ast.Expr, ast.ImportFrom, ast.FunctionDef, ast.ClassDef, ast.Assign)
BARRED = (ast.Div, ast.NamedExpr, ast.Global, ast.AsyncFunctionDef, ast.AsyncFor, ast.AsyncWith, ast.Await, ast.Import)


def files():
    return sorted(PACKAGE.rglob("*.py"))


def bound_names(tree):
    """Every name, attributes apart, that a file gives a meaning of its own."""
    for node in ast.walk(tree):
        if isinstance(node, ast.Name) and isinstance(node.ctx, ast.Store):
            yield node.id
        elif isinstance(node, ast.arg):
            yield node.arg
        elif isinstance(node, (ast.FunctionDef, ast.ClassDef)):
            yield node.name


def trees():
    return {path.stem: ast.parse(path.read_text(encoding="utf-8")) for path in files()}


def methods_of(tree):
    return {node.name for group in ast.walk(tree) if isinstance(group, ast.ClassDef)
            for node in group.body if isinstance(node, ast.FunctionDef)}


def attributes_of(tree):
    """Every attribute that a file assigns."""
    return {node.attr for node in ast.walk(tree)
            if isinstance(node, ast.Attribute) and isinstance(node.ctx, ast.Store)}


def imports_of(tree):
    return [node for node in ast.walk(tree) if isinstance(node, ast.ImportFrom)]


class Language(unittest.TestCase):
    def test_the_folder_holds_its_files_alone(self):
        self.assertIn(PACKAGE / "__init__.py", files())
        others = [path for path in PACKAGE.rglob("*") if "__pycache__" not in path.parts and path.suffix != ".py"]
        self.assertEqual(others, [])
        for path in files():
            self.assertRegex(path.stem, r"^([a-z][a-z0-9_]*|__init__)$")

    def test_signs_and_sizes(self):
        for path in files():
            with self.subTest(path.name):
                text = path.read_text(encoding="utf-8")
                self.assertRegex(text, r"\A[ -~\n]*\Z")
                self.assertLessEqual(len(text.splitlines()), 400)
                self.assertLessEqual(max(len(line) for line in text.splitlines()), 120)
                for node in ast.walk(ast.parse(text)):
                    if isinstance(node, ast.FunctionDef):
                        self.assertLessEqual(node.end_lineno - node.lineno + 1, 40, node.name)

    def test_words_that_do_not_occur(self):
        for path in files():
            with self.subTest(path.name):
                text = path.read_text(encoding="utf-8")
                self.assertIsNone(WORDS.search(text))

    def test_imports_name_files_of_the_package(self):
        for path in files():
            with self.subTest(path.name):
                text = path.read_text(encoding="utf-8")
                for node in ast.walk(ast.parse(text)):
                    if isinstance(node, ast.ImportFrom):
                        self.assertEqual(node.level, 0)
                        source = PACKAGE.parent / (node.module.replace(".", "/") + ".py")
                        self.assertTrue(source.is_file(), node.module)
                        self.assertNotIn("*", [name.name for name in node.names])

    def test_no_barred_statement_or_value(self):
        for path in files():
            with self.subTest(path.name):
                text = path.read_text(encoding="utf-8")
                for node in ast.walk(ast.parse(text)):
                    self.assertNotIsInstance(node, BARRED)
                    if isinstance(node, ast.Constant):
                        self.assertNotIsInstance(node.value, (float, complex))
                        self.assertNotIn("%", node.value if isinstance(node.value, str) else "")
                    if isinstance(node, ast.Compare) and any(isinstance(op, (ast.Is, ast.IsNot)) for op in node.ops):
                        self.assertTrue(all(isinstance(right, ast.Constant) for right in node.comparators))

    def test_plain_names_that_are_no_builtins(self):
        for path in files():
            with self.subTest(path.name):
                text = path.read_text(encoding="utf-8")
                tree = ast.parse(text)
                methods = methods_of(tree)
                for name in bound_names(tree):
                    if name not in METHODS:
                        self.assertRegex(name, r"^[A-Za-z][A-Za-z0-9_]*$")
                    if name not in methods:
                        self.assertFalse(hasattr(builtins, name), name)

    def test_plain_attributes(self):
        for path in files():
            with self.subTest(path.name):
                text = path.read_text(encoding="utf-8")
                for node in ast.walk(ast.parse(text)):
                    if isinstance(node, ast.Attribute) and node.attr not in METHODS:
                        self.assertRegex(node.attr, r"^[A-Za-z][A-Za-z0-9_]*$")

    def test_only_the_builtins_that_are_listed(self):
        for path in files():
            with self.subTest(path.name):
                text = path.read_text(encoding="utf-8")
                for node in ast.walk(ast.parse(text)):
                    if isinstance(node, ast.Name) and hasattr(builtins, node.id):
                        self.assertIn(node.id, BUILTINS)

    def test_no_name_is_a_method_here_and_an_attribute_there(self):
        methods = set().union(*[methods_of(tree) for tree in trees().values()])
        attributes = set().union(*[attributes_of(tree) for tree in trees().values()])
        self.assertEqual(methods & attributes, set())
        self.assertEqual(attributes & NO_ATTRIBUTES, set())
        for tree in trees().values():
            for node in ast.walk(tree):
                if isinstance(node, ast.Attribute) and node.attr not in METHODS:
                    self.assertIn(node.attr, methods | attributes | LIST_METHODS)

    def test_no_local_name_is_a_class_or_an_import_of_its_file(self):
        for file, tree in trees().items():
            imported = [name.name for node in imports_of(tree) for name in node.names]
            bound = imported + list(bound_names(tree))
            for name in imported + [node.name for node in tree.body if isinstance(node, ast.ClassDef)]:
                self.assertEqual(bound.count(name), 1, f"{file}: {name}")

    def test_imports_stand_at_the_top_and_in_no_circle(self):
        sources = {}
        for file, tree in trees().items():
            self.assertEqual([node for node in imports_of(tree) if node not in tree.body], [])
            sources[file] = {node.module.split(".")[-1] for node in imports_of(tree)}
        while sources:
            free = [file for file in sources if not sources[file] & set(sources)]
            self.assertNotEqual(free, [], f"a circle among {sorted(sources)}")
            sources = {file: sources[file] for file in sources if file not in free}

    def test_nothing_runs_at_module_level(self):
        for file, tree in trees().items():
            for node in tree.body:
                self.assertIsInstance(node, MODULE_LEVEL, file)
                if isinstance(node, ast.Expr):
                    self.assertIsInstance(node.value, ast.Constant)
                if isinstance(node, ast.Assign):
                    self.assertFalse(any(isinstance(part, ast.Call) for part in ast.walk(node)))

    def test_errors_are_created_on_the_spot_and_caught_by_name(self):
        refusals = {node.name for node in trees()["errors"].body if isinstance(node, ast.ClassDef)}
        for file, tree in trees().items():
            for node in ast.walk(tree):
                if isinstance(node, ast.Raise) and node.exc is not None:
                    self.assertIsInstance(node.exc, ast.Call, file)
                    self.assertIn(node.exc.func.id, refusals)
                    self.assertIsInstance(node.cause, (ast.Name, type(None)))
                if isinstance(node, ast.ExceptHandler):
                    self.assertIn(node.type.id, refusals, file)

    def test_what_is_iterated_at_once_is_not_stored(self):
        for file, tree in trees().items():
            at_once = set()
            for node in ast.walk(tree):
                if isinstance(node, (ast.For, ast.comprehension)):
                    at_once.add(node.iter)
                if isinstance(node, ast.Call) and isinstance(node.func, ast.Name) and node.func.id in TAKERS:
                    at_once.update(node.args[:1])
            for node in ast.walk(tree):
                if isinstance(node, ast.Call):
                    name = node.func.id if isinstance(node.func, ast.Name) else node.func.attr
                    if name in ("zip", "enumerate", "reversed", "range", "items", "keys", "values"):
                        self.assertIn(node, at_once, f"{file}: line {node.lineno}")

    def test_no_decorators_no_annotations_no_defaults_that_are_not_plain(self):
        for file, tree in trees().items():
            for node in ast.walk(tree):
                self.assertNotIsInstance(node, (ast.AnnAssign, ast.Yield, ast.YieldFrom, ast.Set, ast.SetComp), file)
                if isinstance(node, (ast.FunctionDef, ast.ClassDef)):
                    self.assertEqual(node.decorator_list, [])
                if isinstance(node, ast.FunctionDef):
                    self.assertEqual(node.args.posonlyargs, [])
                    self.assertTrue(all(isinstance(value, ast.Constant) for value in node.args.defaults))


if __name__ == "__main__":
    unittest.main()
