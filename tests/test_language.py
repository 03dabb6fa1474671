"""The package's files keep to the small part of Python that the program is written in."""

import ast
import builtins
import pathlib
import re
import unittest

PACKAGE = pathlib.Path(__file__).resolve().parent.parent / "bloodbath"

OWN_NAMES = set("""len range enumerate zip min max sum abs sorted reversed int str bool list tuple dict set frozenset
    isinstance ord repr any all divmod Exception ValueError TypeError KeyError IndexError LookupError
    ZeroDivisionError ArithmeticError OverflowError RuntimeError NotImplementedError AttributeError
    StopIteration""".split())
METHODS = set("""append clear copy count endswith extend find get index insert isalnum isalpha isdigit islower isspace
    isupper items join keys ljust lower lstrip partition pop remove replace reverse rfind rjust rpartition rsplit
    rstrip setdefault split splitlines startswith strip update upper values zfill bit_length""".split())
WORDS = re.compile(r"\b(type|typing|typing_extensions|enum|Enum|IntEnum|StrEnum|Flag|IntFlag|Generic|Protocol|ABC|"
                   r"ABCMeta|namedtuple|NamedTuple|TypedDict|TYPE_CHECKING|abstractmethod)\b|dataclass|overload|"
                   r"contextmanager")
OUT = (ast.With, ast.Match, ast.Delete, ast.Global, ast.Nonlocal, ast.Assert, ast.Yield, ast.YieldFrom, ast.Await,
       ast.AsyncFor, ast.AsyncFunctionDef, ast.AsyncWith, ast.Div, ast.MatMult, ast.SetComp, ast.DictComp,
       ast.GeneratorExp, ast.NamedExpr, ast.Starred, ast.Import, ast.AnnAssign)
OWN_DOUBLE = {"__init__", "__eq__", "__repr__", "__str__", "__len__"}


def files():
    return sorted(PACKAGE.rglob("*.py"))


def trees():
    return [(path, ast.parse(path.read_text("utf-8"))) for path in files()]


class Language(unittest.TestCase):
    def test_files(self):
        self.assertIn(PACKAGE / "__init__.py", files())
        for path in PACKAGE.rglob("*"):
            if "__pycache__" not in path.parts:
                self.assertRegex(path.name, r"^(__init__|__main__|[a-z][a-z0-9_]*)\.py$")
                self.assertNotIn(path.stem, dir(builtins))
                self.assertNotRegex(path.stem, r"^(tests?|testing|test_.*|site|conftest)$")

    def test_signs_and_sizes(self):
        for path in files():
            text = path.read_text("utf-8")
            self.assertRegex(text, r"\A[ -~\n]*\Z", path)
            self.assertIsNone(WORDS.search(text), path)
            rows = text.split("\n")
            self.assertLessEqual(len(rows), 400, path)
            self.assertLessEqual(max(len(row) for row in rows), 120, path)
        for path, tree in trees():
            for node in ast.walk(tree):
                if isinstance(node, ast.FunctionDef):
                    self.assertLessEqual(node.end_lineno - node.lineno + 1, 40, (path, node.name))

    def test_statements_and_values(self):
        for path, tree in trees():
            for node in ast.walk(tree):
                self.assertNotIsInstance(node, OUT, (path, getattr(node, "lineno", 0)))
                if isinstance(node, ast.Constant):
                    self.assertIn(type(node.value), (int, str, bool, type(None)), (path, node.lineno))
                if isinstance(node, ast.Assign):
                    self.assertEqual(len(node.targets), 1, (path, node.lineno))
                if isinstance(node, (ast.For, ast.While)):
                    self.assertEqual(node.orelse, [], (path, node.lineno))
                if isinstance(node, (ast.FunctionDef, ast.ClassDef)):
                    self.assertEqual(node.decorator_list, [], (path, node.lineno))
                if isinstance(node, ast.arguments):
                    self.assertFalse(node.vararg or node.kwarg or node.kwonlyargs, path)

    def test_imports(self):
        modules = {"bloodbath." + path.stem for path in files()}
        for path, tree in trees():
            for node in ast.walk(tree):
                if isinstance(node, ast.ImportFrom):
                    self.assertEqual(node.level, 0, path)
                    self.assertIn(node.module, modules, path)
                    self.assertIn(node, tree.body, path)

    def test_names(self):
        for path, tree in trees():
            for node in ast.walk(tree):
                if isinstance(node, ast.Name):
                    self.assert_plain(node.id, path)
                    if node.id in dir(builtins):
                        self.assertIn(node.id, OWN_NAMES, (path, node.lineno))
                        self.assertIsInstance(node.ctx, ast.Load, (path, node.lineno))
                if isinstance(node, ast.arg):
                    self.assert_plain(node.arg, path)
                    self.assertNotIn(node.arg, dir(builtins), (path, node.lineno))
                if isinstance(node, (ast.FunctionDef, ast.ClassDef)):
                    self.assert_plain(node.name, path)
                    self.assertNotIn(node.name, dir(builtins), (path, node.lineno))

    def assert_plain(self, name, path):
        if name not in OWN_DOUBLE:
            self.assertRegex(name, r"^[A-Za-z][A-Za-z0-9_]*$", path)

    def test_methods_and_values_of_objects(self):
        methods = set()
        values = set()
        for path, tree in trees():
            for node in ast.walk(tree):
                if isinstance(node, ast.ClassDef):
                    methods |= {one.name for one in node.body if isinstance(one, ast.FunctionDef)}
                if isinstance(node, ast.Attribute) and isinstance(node.ctx, ast.Store):
                    values.add(node.attr)
                    self.assertIsInstance(node.value, ast.Name, (path, node.lineno))
        python = {name for kind in (str, int, list, tuple, dict, set, frozenset, bytes) for name in dir(kind)}
        self.assertEqual(methods & values, set())
        self.assertEqual((methods - OWN_DOUBLE) & python, set())
        self.assertEqual(values & python, set())
        for path, tree in trees():
            for node in ast.walk(tree):
                if isinstance(node, ast.Attribute):
                    self.assertIn(node.attr, methods | values | METHODS, (path, node.lineno))

    def test_the_top_of_a_file_is_bound_once(self):
        for path, tree in trees():
            bound = []
            for node in tree.body:
                self.assertIsInstance(node, (ast.Expr, ast.ImportFrom, ast.FunctionDef, ast.ClassDef, ast.Assign), path)
                if isinstance(node, ast.Assign):
                    bound.append(node.targets[0].id)
                if isinstance(node, (ast.FunctionDef, ast.ClassDef)):
                    bound.append(node.name)
            self.assertEqual(len(bound), len(set(bound)), path)


if __name__ == "__main__":
    unittest.main()
