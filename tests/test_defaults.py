"""Tests of the package's own files: a parameter's default is a plain value."""

import ast
import pathlib
import unittest

import framerooms

PACKAGE = pathlib.Path(framerooms.__file__).resolve().parent


def is_plain(node):
    """Whether a default is written as a whole number, a text, True, False or None."""
    if isinstance(node, ast.UnaryOp) and isinstance(node.op, ast.USub):
        # Python reads a number below zero as a sign ahead of a number.
        return isinstance(node.operand, ast.Constant) and type(node.operand.value) is int
    return isinstance(node, ast.Constant) and (node.value is None or type(node.value) in (int, str, bool))


def defaults_in(source):
    """All defaults of a source's functions, methods and lambdas."""
    found = []
    for node in ast.walk(ast.parse(source)):
        if isinstance(node, ast.arguments):
            # A parameter that is given by its name alone has None here where it has no default.
            found.extend(node.defaults + [each for each in node.kw_defaults if each is not None])
    return found


def rows_against(source):
    """The rows with a default that is no plain value, by their numbers."""
    return sorted({node.lineno for node in defaults_in(source) if not is_plain(node)})


def sources():
    """The texts of the package's own files, by their places in it."""
    return {
        path.relative_to(PACKAGE).as_posix(): path.read_text(encoding="utf-8")
        for path in sorted(PACKAGE.rglob("*.py"))
    }


class TestPackage(unittest.TestCase):
    def test_defaults(self):
        found = {name: rows_against(source) for name, source in sources().items()}
        self.assertEqual({name: rows for name, rows in found.items() if rows}, {})

    def test_files_are_read(self):
        names = list(sources())
        for name in ("__init__.py", "desk.py", "house.py", "steps.py"):
            self.assertIn(name, names)
        self.assertTrue([node for source in sources().values() for node in defaults_in(source)])


class TestReading(unittest.TestCase):
    """The reading itself, since a package without faults doesn't show that one would be found."""

    def test_plain(self):
        for default in ("0", "7", "-1", "''", "'a'", "'a' 'b'", "True", "False", "None"):
            with self.subTest(default=default):
                self.assertEqual(rows_against(f"def f(a, b={default}):\n    pass\n"), [])

    def test_not_plain(self):
        for default in (
            "()", "(1,)", "(None, 'a')", "[]", "[0]", "{}", "{'a': 1}", "{1}", "set()", "tuple()", "list()", "int()",
            "1.5", "-1.5", "2j", "b''", "...", "f''", "f'{a}'", "GROUND", "a.b", "a[0]", "1 + 1", "-a", "--1", "-True",
            "not True", "~1", "1 if a else 2", "None or 1", "lambda: 0", "[a for a in b]", "1 < 2", "(a := 1)",
        ):
            with self.subTest(default=default):
                self.assertEqual(rows_against(f"def f(a, b={default}):\n    pass\n"), [1])

    def test_every_kind_of_parameter(self):
        for source in (
            "\ndef f(a=()): pass", "\ndef f(a=(), /): pass", "\ndef f(*, a=()): pass", "\ndef f(*, a, b=()): pass",
            "\ndef f(a=(), b=None): pass", "\ndef f(a=None, b=()): pass", "\nasync def f(a=()): pass",
            "\ng = lambda a=(): 0", "class C:\n    def __init__(self, a=()): pass", "def f():\n    def g(a=()): pass",
            "def f(a,\n    b=()): pass", "def f():\n    return [lambda a=(): 0]", "def f(\n  a=lambda b=(): 0): pass",
        ):
            with self.subTest(source=source):
                self.assertEqual(rows_against(source), [2])

    def test_what_is_no_default(self):
        for source in (
            "A = ()\nB = []", "def f(a, b):\n    return g(a, c=())", "def f(*a, b, **c): pass",
            "def f(a: (1, 2)) -> (): pass", "class C(B):\n    def f(self):\n        self.a = ()",
        ):
            with self.subTest(source=source):
                self.assertEqual(rows_against(source), [])
