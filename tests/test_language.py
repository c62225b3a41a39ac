"""The rules of ../shared/LANGUAGE.md that a script can look up, and the form of the package."""

import ast
import pathlib
import re
import unittest

from tests.language_rules import PACKAGE, faults

FOLDER = pathlib.Path(__file__).resolve().parent.parent / PACKAGE


def files():
    return sorted(path for path in FOLDER.rglob("*") if "__pycache__" not in path.parts)


def imports_of(path):
    """The pairs (module of the package, name) that a file imports."""
    tree = ast.parse(path.read_text(encoding="ascii"))
    return [
        (node.module[len(PACKAGE) + 1:], alias.name)
        for node in ast.walk(tree) if isinstance(node, ast.ImportFrom) and node.module.startswith(PACKAGE)
        for alias in node.names
    ]


def defined_in(path):
    """The names that a file defines itself at module level."""
    names = set()
    for row in ast.parse(path.read_text(encoding="ascii")).body:
        if isinstance(row, (ast.FunctionDef, ast.ClassDef)):
            names.add(row.name)
        elif isinstance(row, ast.Assign):
            names |= {target.id for target in row.targets}
    return names


class PackageTest(unittest.TestCase):
    def test_only_plain_files(self):
        self.assertIn("__init__.py", [path.name for path in files()])
        for path in files():
            self.assertTrue(path.is_file(), path)
            self.assertRegex(path.name, r"^(__init__|[a-z][a-z0-9_]*)\.py$")
            self.assertIsNone(re.match(r"law_|test|site|conftest|usercustomize", path.name))

    def test_no_file_breaks_a_rule(self):
        for path in files():
            with self.subTest(path.name):
                self.assertEqual(faults(path.read_bytes().decode("ascii")), [])

    def test_imports_name_the_file_that_defines(self):
        for path in files():
            for module, name in imports_of(path):
                self.assertIn(name, defined_in(FOLDER / (module + ".py")), path.name)

    def test_no_circle_of_imports(self):
        above = {path.stem: {module for module, _ in imports_of(path)} for path in files()}
        self.assertEqual(above["__init__"], set())
        while above:
            free = [stem for stem, modules in above.items() if not modules & set(above)]
            self.assertTrue(free, sorted(above))
            for stem in free:
                del above[stem]


class LookupTest(unittest.TestCase):
    """The script itself: each of these texts breaks one rule."""

    def test_good_text(self):
        self.assertEqual(faults('"""Words, type among them."""\n\n\ndef go(x):\n    return x + 1  # no type\n'), [])
        self.assertEqual(faults("def go(x, y):\n    key = (*y, 1)\n    return [*x, x[key], go(*x, y)]\n"), [])

    def test_each_rule(self):
        long_function = "def go(x):\n" + "    x += 1\n" * 40
        for rule, text in (
            ("L2", "import math\n"),
            ("L2", "from os import path\n"),
            ("L2", "from .rests import rest\n"),
            ("L2", "from carriedends.rests import *\n"),
            ("L2", "from math import gcd as common\n"),
            ("L2", "A = 1\nfrom math import gcd\n"),
            ("L3", "print(1)\n"),
            ("L3", "A = len('ab')\n"),
            ("L3", "A, B = 1, 2\n"),
            ("L4", "def go(x=[]):\n    return x\n"),
            ("L4", "def go(*, x={}):\n    return x\n"),
            ("L5", "class A:\n    def __hash__(self):\n        return 1\n"),
            ("L6", "def go():\n    global x\n    x = 1\n"),
            ("L7", "def go(x):\n    return x / 2\n"),
            ("L7", "def go(x):\n    return x * 1.5\n"),
            ("L7", "def go(x):\n    return any(y for y in x)\n"),
            ("L7", "def go(x, y):\n    return x[(*y, 1)]\n"),
            ("L7", "def go(x, y):\n    x[(*y, 1)] = 2\n"),
            ("L7", "def go(x, y):\n    x[0, *y] += 2\n"),
            ("L7", "def go(x, y):\n    del x[[*y][0]]\n"),
            ("L7", "def go(x, y):\n    return x in {*y, 1}\n"),
            ("L7", "def go(x):\n    return go(*x[1:])\n"),
            ("L7", "def go(x):\n    return go(*x, x[4])\n"),
            ("L8", "def go(x):\n    return hash(x)\n"),
            ("L8", "def go(x):\n    print(x)\n"),
            ("L10", long_function),
            ("L10", "A = 1\n" * 400),
            ("L10", "A = '" + "a" * 120 + "'\n"),
            ("L12", "def go(x):\n    return [_ for _ in x]\n"),
            ("L14", "A = 1\t\n"),
            ("L14", "A = '\u00e4'\n"),
            ("L15", "A = 1\nA = 2\n"),
            ("L15", "def go(id):\n    return id\n"),
            ("L15", "def sum(x):\n    return x\n"),
            ("L15", "from math import gcd\n\n\ndef go(gcd):\n    return gcd\n"),
            ("L17", "def go(x):\n    return x.law\n"),
            ("L17", "A = 'type'\n"),
            ("L20", "def go(x, y):\n    return x is y\n"),
            ("L21", "A: int = 1\n"),
            ("L24", "def go(x):\n    for y in set(x):\n        return y\n"),
            ("L25", "def go(x):\n    x.sort()\n"),
            ("L27", "def go(x, y):\n    return x ** y\n"),
            ("L27", "A = 'a % b'\n"),
        ):
            with self.subTest(rule=rule, text=text[:60]):
                self.assertIn(rule, [found for found, _ in faults(text)])


if __name__ == "__main__":
    unittest.main()
