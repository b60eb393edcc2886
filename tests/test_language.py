import ast
import pathlib
import unittest

from tests.language import OWN_METHODS, breaches

PACKAGE = pathlib.Path(__file__).resolve().parent.parent / "delve"


def files():
    return sorted(path for path in PACKAGE.rglob("*") if "__pycache__" not in path.parts)


def sources():
    return {path.name: path.read_text(encoding="utf-8") for path in files()}


def trees():
    return {name: ast.parse(source) for name, source in sources().items()}


def nodes_of(kind):
    return [node for tree in trees().values() for node in ast.walk(tree) if isinstance(node, kind)]


def draws(tree):
    return [node.module.split(".")[1] for node in tree.body if isinstance(node, ast.ImportFrom)]


class Language(unittest.TestCase):
    def test_nothing_but_source_lies_in_the_package(self):
        self.assertEqual([path.name for path in files() if path.suffix != ".py"], [])
        self.assertIn("__init__.py", sources())

    def test_no_file_breaks_a_rule(self):
        for name, source in sources().items():
            self.assertEqual(breaches("delve", name, source), [], name)

    def test_names_are_drawn_from_the_file_that_defines_them(self):
        for name, tree in trees().items():
            for node in tree.body:
                if isinstance(node, ast.ImportFrom):
                    drawn = trees()[node.module.split(".")[1] + ".py"]
                    for part in node.names:
                        self.assertIn(part.name, defined(drawn), (name, part.name))

    def test_no_two_files_draw_from_one_another(self):
        left = {name[:-3]: draws(tree) for name, tree in trees().items()}
        while left:
            free = [name for name, drawn in left.items() if not set(drawn) & set(left)]
            self.assertTrue(free, left)
            left = {name: drawn for name, drawn in left.items() if name not in free}

    def test_init_binds_nothing(self):
        self.assertEqual(len(ast.parse(sources()["__init__.py"]).body), 1)

    def test_no_name_is_a_method_here_and_a_value_there(self):
        methods = {row.name for node in nodes_of(ast.ClassDef) for row in node.body if isinstance(row, ast.FunctionDef)}
        values = {node.attr for node in nodes_of(ast.Attribute) if isinstance(node.ctx, ast.Store)}
        self.assertEqual(methods & values, set())

    def test_methods_are_own_ones_or_listed(self):
        known = set(OWN_METHODS)
        known |= {row.name for node in nodes_of(ast.ClassDef) for row in node.body if isinstance(row, ast.FunctionDef)}
        for node in nodes_of(ast.Call):
            if isinstance(node.func, ast.Attribute):
                self.assertIn(node.func.attr, known)

    def test_the_check_finds_breaches(self):
        for source in BAD_SOURCES:
            self.assertNotEqual(breaches("delve", "bad.py", source), [], source)
        self.assertEqual(breaches("delve", "good.py", GOOD_SOURCE), [])


def defined(tree):
    names = [node.name for node in tree.body if isinstance(node, (ast.FunctionDef, ast.ClassDef))]
    return names + [node.targets[0].id for node in tree.body if isinstance(node, ast.Assign)]


GOOD_SOURCE = '''"""Words."""

from delve.errors import NoCellar

TOPS = {"a": (1, 2)}


class Thing(NoCellar):
    def __init__(self, kind):
        NoCellar.__init__(self, f"{kind!r}")
        self.kind = kind


def found(kinds):
    return sorted([kind for number, kind in enumerate(kinds) if kind is not None])
'''

BAD_SOURCES = (
    "import sys\n", "from os import path\n", "x = 1.5\n", "x = [[1]]\n", "x = 1\nx = 2\n", "print(1)\n",
    "def f(*a):\n    return a\n", "def f(a):\n    a, b = a\n", "def f(a):\n    return a / 2\n",
    "def f(a):\n    return {x for x in a}\n", "def f(a):\n    return hash(a)\n", "def f(a):\n    return a is 3\n",
    "def f(a):\n    b = set(a)\n    return len(b)\n", "def f(a):\n    b = range(a)\n    return b\n",
    "def f(len):\n    return 1\n", "class A:\n    x = 1\n", "# a type\n", "# caf\u00e9\n", "def f():\n    assert 1\n",
    "def f():\n    return '%'\n", "def _f():\n    return 1\n", "def f(a):\n\treturn a\n", "x = 1" + " " * 120 + "\n",
    "def f():\n    'words'\n", "def f(a):\n    return f'{a.b}'\n", "def f(a: int):\n    return a\n",
    "def f(a):\n    return 2 ** a\n", "def f(a):\n    for b in a:\n        pass\n    else:\n        pass\n",
    "def f(a):\n    for b in a:\n        a.append(b)\n",
    "def f(a):\n    for b, c in enumerate(a):\n        a[b] = c + 1\n",
    "def f(a):\n    for b, c in a.items():\n        a.pop(b)\n", "def f(a):\n    for b in a:\n        a = [b]\n",
    "def f(a):\n    for b, c in zip(a, a):\n        a[b] += c\n",
    "def f(a):\n    b = len({1, 2, 3})\n    return a + b\n",
    "def f(a):\n    return (lambda b: b + a, lambda b: b - a)\n",
    "def f(a):\n    try:\n        a()\n    except Exception:\n        pass\n", "@f\ndef g():\n    return 1\n",
)


if __name__ == "__main__":
    unittest.main()
