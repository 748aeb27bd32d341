import ast
import os
import unittest

import language

ROOT = os.path.dirname(os.path.dirname(os.path.abspath(__file__)))
FOLDER = os.path.join(ROOT, language.PACKAGE)

BROKEN = (
    ("L2", "import sys\n"),
    ("L2", "from os import path\n"),
    ("L2", "from .errors import NoBox\n"),
    ("L2", "from viewwood.errors import *\n"),
    ("L2", "def f():\n    from viewwood.errors import NoBox\n    return NoBox\n"),
    ("L3", "print_it = 3 + 4\n"),
    ("L3", "if True:\n    pass\n"),
    ("L4", "def f(*things):\n    return things\n"),
    ("L4", "def f(a, *, b):\n    return a\n"),
    ("L5", "class A:\n    a = 1\n"),
    ("L6", "def f(a):\n    assert a\n"),
    ("L6", "def f(a):\n    a = b = 1\n"),
    ("L6", "def f(a):\n    for b in a:\n        pass\n    else:\n        pass\n"),
    ("L6", "def f(a):\n    with a:\n        pass\n"),
    ("L7", "def f(a):\n    return all(b for b in a)\n"),
    ("L7", "def f(a):\n    return {b: b for b in a}\n"),
    ("L7", "def f(a):\n    return a / 2\n"),
    ("L7", "def f(a):\n    return f'{a + 1}'\n"),
    ("L7", "A = 1.5\n"),
    ("L8", "def f(a):\n    return hash(a)\n"),
    ("L10", "def f(a):\n" + "    a = 1\n" * 40),
    ("L10", "A = 1\n" * 401),
    ("L10", "A = '" + "a" * 120 + "'\n"),
    ("L12", "def _f(a):\n    return a\n"),
    ("L12", "def f(a):\n    return [1 for _ in a]\n"),
    ("L14", "A = '\u00e4'\n"),
    ("L15", "A = 1\nA = 2\n"),
    ("L15", "A = [[1]]\n"),
    ("L15", "def f(min):\n    return min\n"),
    ("L15", "from viewwood.plain import cut\n\n\ndef f(cut):\n    return cut\n"),
    ("L17", "def f(a):\n    return type(a)\n"),
    ("L17", "# the type of a thing\n"),
    ("L17", "def f(a):\n    return id(a)\n"),
    ("L19", "def f(a):\n    try:\n        return a[0]\n    except Exception:\n        return 0\n"),
    ("L20", "def f(a, b):\n    return a is b\n"),
    ("L22", "def f(a):\n    return sorted(a, cmp=1)\n"),
    ("L23", "def f(a):\n    b = a.items()\n    return b\n"),
    ("L24", "def f(a):\n    b = set(a)\n    return b\n"),
    ("L25", "def f(a):\n    b = a.append\n    return b\n"),
    ("L26", "class A:\n    def __init__(self):\n        self.items = []\n"),
    ("L27", "A = '5%'\n"),
    ("L27", "def f(n):\n    return 2 ** n\n"),
)


def sources():
    """The package's files, by name."""
    told = {}
    for name in sorted(os.listdir(FOLDER)):
        if name != "__pycache__":
            with open(os.path.join(FOLDER, name), encoding="utf-8") as file:
                told[name] = file.read()
    return told


def names_at_top(source):
    """The names that a file defines at its top, imports aside."""
    told = []
    for node in ast.parse(source).body:
        if isinstance(node, (ast.FunctionDef, ast.ClassDef)):
            told.append(node.name)
        if isinstance(node, ast.Assign):
            told.append(node.targets[0].id)
    return told


def drawn_from(source):
    """The pairs (file, name) that a file imports."""
    told = []
    for node in ast.parse(source).body:
        if isinstance(node, ast.ImportFrom) and node.module != "__future__":
            told.extend((node.module.split(".")[-1] + ".py", alias.name) for alias in node.names)
    return told


def methods_and_values(source):
    """The names of a file's methods, and those of the values that are given to objects."""
    methods, values = set(), set()
    for node in ast.walk(ast.parse(source)):
        if isinstance(node, ast.ClassDef):
            methods.update(inner.name for inner in node.body if isinstance(inner, ast.FunctionDef))
        if isinstance(node, ast.Attribute) and isinstance(node.ctx, ast.Store):
            values.add(node.attr)
    return methods, values


class TestPackage(unittest.TestCase):
    def test_files(self):
        self.assertIn("__init__.py", sources())
        for name in sources():
            self.assertEqual(language.file_name_faults(name), [], name)

    def test_each_file_keeps_the_rules(self):
        for name, source in sources().items():
            self.assertEqual(language.faults(source), [], name)

    def test_imports_are_from_the_file_that_defines_the_name(self):
        files = sources()
        for name, source in files.items():
            for file, imported in drawn_from(source):
                self.assertIn(imported, names_at_top(files[file]), (name, file))

    def test_no_two_files_draw_from_one_another(self):
        waiting = {name: {file for file, imported in drawn_from(source)} for name, source in sources().items()}
        while waiting:
            free = [name for name in waiting if not waiting[name] & set(waiting)]
            self.assertTrue(free, waiting)
            for name in free:
                del waiting[name]

    def test_no_name_is_a_method_and_a_value(self):
        told = [methods_and_values(source) for source in sources().values()]
        methods = set().union(*[names for names, values in told])
        values = set().union(*[values for names, values in told])
        self.assertEqual(methods & values, set())


class TestTheLook(unittest.TestCase):
    def test_what_breaks_a_rule_is_seen(self):
        for rule, source in BROKEN:
            self.assertIn(rule, [fault[0] for fault in language.faults(source)], source)

    def test_file_names(self):
        for name in ("Plain.py", "test_plain.py", "len.py", "plain.txt", "_plain.py", "site.py", "type.py"):
            self.assertEqual(language.file_name_faults(name), [("L14", 0)], name)


if __name__ == "__main__":
    unittest.main()
