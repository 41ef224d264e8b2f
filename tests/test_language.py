"""The package's files keep to the small part of Python that the program is written in."""

import ast
import pathlib
import re
import unittest

PACKAGE = pathlib.Path(__file__).resolve().parent.parent / "latinclose"
STATEMENTS = (
    ast.Assign, ast.AugAssign, ast.If, ast.While, ast.For, ast.Return, ast.Break, ast.Continue, ast.Pass, ast.Raise,
    ast.Try, ast.Expr, ast.FunctionDef, ast.ClassDef, ast.ImportFrom,
)
OUTSIDE = (
    ast.SetComp, ast.DictComp, ast.GeneratorExp, ast.NamedExpr, ast.Starred, ast.Yield, ast.YieldFrom,
    ast.Await, ast.Div, ast.MatMult, ast.AnnAssign,
)
OWN_NAMES = (
    "len range enumerate zip min max sum abs sorted reversed int str bool list tuple dict set frozenset isinstance "
    "ord repr any all divmod Exception ValueError TypeError KeyError IndexError LookupError ZeroDivisionError "
    "ArithmeticError OverflowError RuntimeError NotImplementedError AttributeError StopIteration"
).split()
DUNDERS = ("__init__", "__eq__", "__repr__", "__str__", "__len__")
WORDS = re.compile(
    r"\b(type|typing|typing_extensions|enum|Enum|IntEnum|StrEnum|Flag|IntFlag|Generic|Protocol|ABC|ABCMeta|namedtuple"
    r"|NamedTuple|TypedDict|TYPE_CHECKING|abstractmethod)\b|dataclass|overload|contextmanager"
)
METHODS = (
    "append clear copy count endswith extend find get index insert isalnum isalpha isdigit islower isspace isupper "
    "items join keys ljust lower lstrip partition pop remove replace reverse rfind rjust rpartition rsplit rstrip "
    "setdefault split splitlines startswith strip update upper values zfill bit_length"
).split()


def is_docstring(node):
    return isinstance(node, ast.Constant) and isinstance(node.value, str)


def bound_names(tree):
    for node in ast.walk(tree):
        if isinstance(node, (ast.FunctionDef, ast.ClassDef)):
            yield node.name
        elif isinstance(node, ast.arg):
            yield node.arg
        elif isinstance(node, ast.alias):
            yield node.asname or node.name
        elif isinstance(node, ast.ExceptHandler) and node.name:
            yield node.name
        elif isinstance(node, ast.Name) and not isinstance(node.ctx, ast.Load):
            yield node.id


class TheLanguage(unittest.TestCase):
    def files(self):
        files = sorted(PACKAGE.rglob("*.py"))
        self.assertIn(PACKAGE / "__init__.py", files)
        for path in files:
            with self.subTest(path.name):
                yield path, path.read_text(encoding="utf-8")

    def trees(self):
        for path, text in self.files():
            yield path, ast.parse(text)

    def own_methods(self):
        found = set()
        for path, tree in self.trees():
            for node in ast.walk(tree):
                if isinstance(node, ast.ClassDef):
                    found |= {part.name for part in node.body if isinstance(part, ast.FunctionDef)}
        return found

    def test_nothing_else_lies_in_the_package(self):
        for path in PACKAGE.rglob("*"):
            if "__pycache__" not in path.parts:
                self.assertEqual(path.suffix, ".py", path)
                self.assertRegex(path.name, r"^[a-z0-9_]+\.py$")

    def test_signs_lines_and_sizes(self):
        for path, text in self.files():
            self.assertRegex(text, r"\A[ -~\n]*\Z")
            self.assertLessEqual(len(text.splitlines()), 400)
            self.assertLessEqual(max(len(line) for line in text.splitlines()), 120)
            self.assertIsNone(WORDS.search(text))
            for node in ast.walk(ast.parse(text)):
                if isinstance(node, ast.FunctionDef):
                    self.assertLessEqual(node.end_lineno - node.lineno + 1, 40, node.name)

    def test_imports_are_the_packages_own(self):
        for path, tree in self.trees():
            for node in ast.walk(tree):
                if isinstance(node, ast.ImportFrom):
                    self.assertIn(node, tree.body)
                    self.assertEqual(node.level, 0)
                    self.assertTrue(node.module.startswith("latinclose."), node.module)
                    self.assertNotIn("*", [alias.name for alias in node.names])

    def test_statements_and_expressions(self):
        for path, tree in self.trees():
            for node in ast.walk(tree):
                if isinstance(node, ast.stmt):
                    self.assertIsInstance(node, STATEMENTS, ast.unparse(node))
                self.assertNotIsInstance(node, OUTSIDE)
                if isinstance(node, ast.Expr):
                    self.assertTrue(isinstance(node.value, ast.Call) or is_docstring(node.value), ast.unparse(node))
                if isinstance(node, ast.Assign):
                    self.assertEqual(len(node.targets), 1, ast.unparse(node))
                if isinstance(node, (ast.For, ast.While)):
                    self.assertEqual(node.orelse, [])
                if isinstance(node, ast.Try):
                    self.assertEqual(node.finalbody, [])
                if isinstance(node, ast.ListComp):
                    self.assertEqual(len(node.generators), 1, ast.unparse(node))
                    self.assertLessEqual(len(node.generators[0].ifs), 1, ast.unparse(node))
                if isinstance(node, ast.Constant):
                    self.assertNotIsInstance(node.value, (float, complex, bytes))

    def test_functions_and_classes_are_plain(self):
        for path, tree in self.trees():
            for node in ast.walk(tree):
                if isinstance(node, (ast.FunctionDef, ast.ClassDef)):
                    self.assertEqual(node.decorator_list, [])
                if isinstance(node, ast.arguments):
                    self.assertFalse(node.vararg or node.kwarg or node.kwonlyargs or node.posonlyargs)
                if isinstance(node, ast.ClassDef):
                    self.assertIn(node, tree.body)
                    self.assertLessEqual(len(node.bases), 1)
                    for part in node.body:
                        self.assertIsInstance(part, (ast.FunctionDef, ast.Pass, ast.Expr))

    def test_names(self):
        python_names = set(dir(__import__("builtins")))
        for path, tree in self.trees():
            for name in bound_names(tree):
                if name not in DUNDERS:
                    self.assertRegex(name, r"^[A-Za-z][A-Za-z0-9_]*$")
                    self.assertNotIn(name, python_names)
            for node in ast.walk(tree):
                if isinstance(node, ast.Name) and node.id in python_names:
                    self.assertIn(node.id, OWN_NAMES)

    def test_no_parameter_and_no_local_is_called_like_a_class_or_an_import(self):
        for path, tree in self.trees():
            taken = {node.name for node in tree.body if isinstance(node, ast.ClassDef)}
            for node in tree.body:
                if isinstance(node, ast.ImportFrom):
                    taken |= {alias.name for alias in node.names}
            for node in ast.walk(tree):
                if isinstance(node, ast.FunctionDef):
                    for name in bound_names(node):
                        self.assertNotIn(name, taken)

    def test_methods(self):
        own = self.own_methods()
        for path, tree in self.trees():
            for node in ast.walk(tree):
                if isinstance(node, ast.Call) and isinstance(node.func, ast.Attribute):
                    self.assertTrue(node.func.attr in METHODS or node.func.attr in own, ast.unparse(node))

    def test_is_stands_beside_none_and_truths_alone(self):
        for path, tree in self.trees():
            for node in ast.walk(tree):
                if isinstance(node, ast.Compare):
                    for sign, value in zip(node.ops, node.comparators):
                        if isinstance(sign, (ast.Is, ast.IsNot)):
                            self.assertTrue(isinstance(value, ast.Constant), ast.unparse(node))


if __name__ == "__main__":
    unittest.main()
