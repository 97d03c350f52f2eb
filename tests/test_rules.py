"""Every file of the package held against the rules, and the rules' own checks against broken code."""

import os
import unittest

from rules import broken_rules

ROOT = os.path.join(os.path.dirname(os.path.dirname(os.path.abspath(__file__))), "partrounds")

GOOD = {
    "__init__.py": '"""A package."""\n',
    "learning.py": '"""Calls."""\n\nfrom partrounds.things import Thing, taken\n\n\ndef answers(calls):\n'
                   '    """Answer."""\n    one = Thing(calls)\n    return taken(one.held)\n',
    "things.py": '"""Things."""\n\nNAMES = ("a", "b")\n\n\nclass Thing:\n    """One."""\n\n'
                 '    def __init__(self, held):\n        self.held = held\n\n\n'
                 'def taken(held):\n    """Take."""\n    return [one for one in held if one not in NAMES]\n',
}

# Each as it would stand at the end of a file of its own; the rule that it breaks.
BROKEN = [
    ("L2", "from .things import taken\n"),
    ("L2", "from partrounds.things import *\n"),
    ("L2", "import sys\n"),
    ("L2", "import math\n"),
    ("L2", "from math import gcd\n"),
    ("L2", "def f():\n    from partrounds.things import taken\n    return taken\n"),
    ("L3", "X = len([1])\n"),
    ("L3", "print(1)\n"),
    ("L3", "for x in (1, 2):\n    pass\n"),
    ("L3", "X = [n for n in (1, 2)]\n"),
    ("L4", "def f(*a):\n    return a\n"),
    ("L4", "def f(**a):\n    return a\n"),
    ("L4", "def f(*, a):\n    return a\n"),
    ("L4", "def f(a=-1):\n    return a\n"),
    ("L4", "def f(a=[]):\n    return a\n"),
    ("L4", "def g(a):\n    return a\n\n\n@g\ndef f(a):\n    return a\n"),
    ("L5", "class A:\n    x = 1\n"),
    ("L5", "class A:\n    def __add__(self, other):\n        return other\n"),
    ("L5", "class A(int):\n    pass\n"),
    ("L6", "def f(a):\n    with a:\n        return 1\n"),
    ("L6", "def f(a):\n    assert a\n"),
    ("L6", "def f(a):\n    del a[0]\n"),
    ("L6", "def f(a):\n    b = c = a\n    return b + c\n"),
    ("L6", "def f(a):\n    for b in a:\n        pass\n    else:\n        return 1\n"),
    ("L6", "def f(a):\n    try:\n        a()\n    finally:\n        a()\n"),
    ("L6", "def f(a):\n    a + 1\n"),
    ("L6", "def f(a):\n    yield a\n"),
    ("L6", "def f(a):\n    def g():\n        nonlocal a\n    return g\n"),
    ("L7", "def f(a):\n    return a / 2\n"),
    ("L7", "def f(a):\n    return a + 1.5\n"),
    ("L7", "def f(a):\n    return b'x' + a\n"),
    ("L7", "def f(a):\n    return {b for b in a}\n"),
    ("L7", "def f(a):\n    return {b: 1 for b in a}\n"),
    ("L7", "def f(a):\n    return sum(b for b in a)\n"),
    ("L7", "def f(a):\n    return [*a]\n"),
    ("L7", "def f(a):\n    return (b := a)\n"),
    ("L7", "def f(a):\n    return [c for b in a for c in b]\n"),
    ("L7", "def f(a):\n    return [c for c in a if c if c > 1]\n"),
    ("L7", "def f(a):\n    return f'{a:3}'\n"),
    ("L8", "def f(a):\n    return map(str, a)\n"),
    ("L8", "def f(a):\n    return unknown(a)\n"),
    ("L8", "def f(a):\n    return a.format(1)\n"),
    ("L8", "def max(a):\n    return a\n"),
    ("L9", "def f(a):\n    print(a)\n"),
    ("L10", "def f(a):\n" + "    a = a + 1\n" * 40 + "    return a\n"),
    ("L10", "X = 1\n" * 400),
    ("L10", "X = " + "1" * 120 + "\n"),
    ("L10", "def f(a):\n\treturn a\n"),
    ("L12", "def f(_a):\n    return _a\n"),
    ("L12", "def f(a):\n    return a._b\n"),
    ("L13", "def f(a):\n    b = {1, 2, 3}\n    return a in b\n"),
    ("L13", "def f(a):\n    return [lambda b: 1, lambda b: 2]\n"),
    ("L14", "X = 'caf\u00e9'\n"),
    ("L15", "X = 1\nX = 2\n"),
    ("L15", "X = [[1]]\n"),
    ("L15", "X = [1]\n\n\ndef f():\n    X.append(1)\n"),
    ("L15", "X = [1]\n\n\ndef f():\n    X[0] = 2\n"),
    ("L15", "X = [1]\n\n\ndef f():\n    return X\n"),
    ("L15", "def f(id):\n    return 1\n"),
    ("L15", "def f(a):\n    hash = a\n    return hash\n"),
    ("L15", "from partrounds.things import taken\n\n\ndef f(taken):\n    return taken\n"),
    ("L16", "from partrounds.nowhere import a\n"),
    ("L16", "from partrounds.learning import taken\n"),
    ("L16", "def answers(calls):\n    return calls\n"),
    ("L17", "def f(a):\n    return type(a)\n"),
    ("L17", "# the type of it\n"),
    ("L17", "# dataclasses\n"),
    ("L17", "def f(a):\n    return a.elements\n"),
    ("L18", "class A:\n    pass\n\n\ndef f():\n    return [A]\n"),
    ("L18", "class A:\n    def b(self):\n        return 1\n\n    def b(self):\n        return 2\n"),
    ("L18", "class A:\n    def held(self):\n        return 1\n"),
    ("L18", "class A(StopIteration):\n    pass\n"),
    ("L19", "def f(a):\n    try:\n        a()\n    except Exception:\n        return 1\n"),
    ("L19", "def f(a):\n    try:\n        a()\n    except ValueError:\n        return 1\n"),
    ("L19", "def f(a):\n    raise a\n"),
    ("L19", "class A(ValueError):\n    pass\n\n\ndef f(a):\n    raise A() from a\n"),
    ("L20", "def f(a, b):\n    return a is b\n"),
    ("L21", "def f(a: int):\n    return a\n"),
    ("L21", "X: int = 1\n"),
    ("L22", "def f(a):\n    b = len\n    return b(a)\n"),
    ("L22", "def f(a):\n    return int(a, base=2)\n"),
    ("L22", "def f(a):\n    return a.split(sep=';')\n"),
    ("L23", "def f(a):\n    b = zip(a, a)\n    return list(b)\n"),
    ("L23", "def f(a):\n    return a.items()\n"),
    ("L23", "def f(a):\n    for b in a:\n        a.append(b)\n"),
    ("L23", "def f(a):\n    for b, c in enumerate(a):\n        a[b] = c\n"),
    ("L24", "def f(a):\n    b = set(a)\n    return 1 in b\n"),
    ("L24", "def f(a):\n    return [b for b in set(a)]\n"),
    ("L25", "def f(a):\n    return a.encode()\n"),
    ("L25", "def f(a):\n    a.sort()\n"),
    ("L25", "def f(a):\n    b = a.append\n    return b\n"),
    ("L26", "class A:\n    def __init__(self):\n        self.items = 1\n"),
    ("L26", "class A:\n    def encode(self):\n        return 1\n"),
    ("L27", "def f(a):\n    return 2 ** a\n"),
    ("L27", "X = 'a % b'\n"),
    ("L27", "def f(a):\n    return chr(a)\n"),
    ("L27", "X = '\\x41'\n"),
    ("L28", "class A:\n    def __init__(self):\n        return None\n"),
    ("L28", "class A:\n    def __len__(self):\n        return 1 + 2\n"),
    ("L28", "class A:\n    def __eq__(self, other):\n        self.b = 1\n        return True\n"),
]


def package():
    """Give the package's files, path by path."""
    sources = {}
    for folder, inner, names in os.walk(ROOT):
        inner[:] = [name for name in inner if name != "__pycache__"]
        for name in names:
            path = os.path.join(folder, name)
            with open(path, encoding="utf-8", newline="") as file:
                sources[os.path.relpath(path, ROOT).replace(os.sep, "/")] = file.read()
    return sources


def rules_of(sources):
    return {rule for rule, path, line, words in broken_rules(sources)}


class Package(unittest.TestCase):
    def test_every_file_keeps_to_the_rules(self):
        self.assertEqual(broken_rules(package()), [])

    def test_the_package_is_there(self):
        self.assertIn("__init__.py", package())
        self.assertIn("learning.py", package())


class Checks(unittest.TestCase):
    def test_good_code_is_let_through(self):
        self.assertEqual(broken_rules(GOOD), [])

    def test_each_broken_piece_is_seen(self):
        for rule, source in BROKEN:
            self.assertIn(rule, rules_of({**GOOD, "broken.py": source}), source)

    def test_names_of_files(self):
        for rule, path in (("L1", "note.txt"), ("L1", "a-b.py"), ("L14", "Upper.py"), ("L14", "tests.py"),
                           ("L14", "test_a.py"), ("L14", "len.py"), ("L14", "typing.py"), ("L14", "sub/a.py"),
                           ("L14", "sub/__main__.py")):
            self.assertIn(rule, rules_of({**GOOD, path: "X = 1\n"}), path)

    def test_files_that_draw_from_one_another(self):
        first = "from partrounds.second import b\n\n\ndef a():\n    return b()\n"
        second = "from partrounds.first import a\n\n\ndef b():\n    return a()\n"
        self.assertIn("L16", rules_of({**GOOD, "first.py": first, "second.py": second}))

    def test_the_interface_is_written_in_its_file(self):
        moved = dict(GOOD)
        moved["learning.py"] = "from partrounds.things import taken\n"
        self.assertIn("L16", rules_of(moved))

    def test_a_name_of_one_of_its_files(self):
        self.assertIn("L16", rules_of({**GOOD, "__init__.py": "things = 1\n"}))


if __name__ == "__main__":
    unittest.main()
