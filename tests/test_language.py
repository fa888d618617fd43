"""The package keeps to the part of Python that is allowed, as far as its tree shows it."""

import ast
import os
import unittest

from language import faults

ROOT = os.path.dirname(os.path.dirname(os.path.abspath(__file__)))
PACKAGE = os.path.join(ROOT, "mixposts")

BAD = (
    ("L3", "import os\n"),
    ("L2", "from .errors import NoPrime\n"),
    ("L2", "from random import choice\n"),
    ("L3", "print(1)\n"),
    ("L4", "def f(*xs):\n    return 1\n"),
    ("L4", "def f(x=[]):\n    return x\n"),
    ("L5", "class A:\n    x = 1\n"),
    ("L6", "def f(x):\n    with x:\n        pass\n"),
    ("L6", "def f(x):\n    a = b = x\n"),
    ("L6", "def f(x):\n    yield x\n"),
    ("L6", "def f(x):\n    assert x\n"),
    ("L6", "def f(xs):\n    for x in xs:\n        pass\n    else:\n        pass\n"),
    ("L7", "def f(x):\n    return x / 2\n"),
    ("L7", "def f():\n    return 1.5\n"),
    ("L7", "def f(xs):\n    return sum(x for x in xs)\n"),
    ("L7", "def f(xs):\n    return {x: 1 for x in xs}\n"),
    ("L7", "def f(xs):\n    return [x for ys in xs for x in ys]\n"),
    ("L8", "def f(x):\n    return pow(x, 2)\n"),
    ("L10", "x = '" + "a" * 120 + "'\n"),
    ("L10", "def f():\n" + "    f()\n" * 40),
    ("L12", "def _f():\n    return 1\n"),
    ("L14", "# \u00e4\n"),
    ("L15", "def f(min):\n    return min\n"),
    ("L15", "x = 1\nx = 2\n"),
    ("L17", "# a type\n"),
    ("L19", "def f():\n    raise ValueError\n"),
    ("L20", "def f(x, y):\n    return x is y\n"),
    ("L23", "def f(x):\n    y = range(x)\n    return y\n"),
    ("L25", "def f(xs):\n    xs.sort()\n"),
    ("L27", "x = 'a%b'\n"),
    ("L27", "def f(n):\n    return 2 ** n\n"),
)


def package_files():
    found = [name for name in sorted(os.listdir(PACKAGE)) if name != "__pycache__"]
    return [(name, open_text(os.path.join(PACKAGE, name))) for name in found]


def open_text(path):
    with open(path, encoding="utf-8") as file:
        return file.read()


def drawn_from(source):
    return [
        (node.module.partition(".")[2] + ".py", alias.name)
        for node in ast.walk(ast.parse(source)) if isinstance(node, ast.ImportFrom) for alias in node.names
    ]


def defined_names(source):
    body = ast.parse(source).body
    named = [node.name for node in body if isinstance(node, (ast.FunctionDef, ast.ClassDef))]
    return named + [node.targets[0].id for node in body if isinstance(node, ast.Assign)]


class Language(unittest.TestCase):
    def test_only_plain_files(self):
        names = [name for name, source in package_files()]
        self.assertIn("__init__.py", names)
        for name in names:
            self.assertRegex(name, r"\A(__init__|__main__|[a-z][a-z0-9_]*)\.py\Z")

    def test_every_file_keeps_the_rules(self):
        for name, source in package_files():
            self.assertEqual(faults(source), [], name)

    def test_imports_name_the_defining_file(self):
        sources = dict(package_files())
        for name, source in sources.items():
            for module, wanted in drawn_from(source):
                self.assertIn(wanted, defined_names(sources[module]), (name, module))

    def test_no_two_files_draw_from_one_another(self):
        sources = dict(package_files())
        done = []
        while len(done) < len(sources):
            ready = [
                name for name, source in sources.items()
                if name not in done and all(module in done for module, wanted in drawn_from(source))
            ]
            self.assertTrue(ready, sorted(set(sources) - set(done)))
            done += ready

    def test_values_and_methods_are_named_apart(self):
        methods = set()
        values = set()
        for name, source in package_files():
            for node in ast.walk(ast.parse(source)):
                if isinstance(node, ast.ClassDef):
                    methods |= {part.name for part in node.body if isinstance(part, ast.FunctionDef)}
                if isinstance(node, ast.Attribute) and isinstance(node.ctx, ast.Store):
                    values.add(node.attr)
        self.assertEqual(methods & values, set())

    def test_bad_forms_are_seen(self):
        for rule, source in BAD:
            self.assertIn(rule, [found for found, line in faults(source)], source)


if __name__ == "__main__":
    unittest.main()
