import pathlib
import unittest

from form import faults

PACKAGE = pathlib.Path(__file__).resolve().parent.parent / "springframe"

# Pairs of a rule and a text that breaks it.
BROKEN = (
    ("L2", "from springframe import two\n"),
    ("L2", "from .two import name\n"),
    ("L2", "from math import gcd\n"),
    ("L3", "print(1)\n"),
    ("L4", "def f(*many):\n    return many\n"),
    ("L5", "class C(ValueError):\n    x = 1\n"),
    ("L6", "import math\n"),
    ("L6", "def f(x):\n    assert x\n"),
    ("L6", "def f(x):\n    a = b = x\n    return a + b\n"),
    ("L6", "def f(x):\n    a, b = x\n    return a + b\n"),
    ("L7", "def f(x):\n    return x / 2\n"),
    ("L7", "def f(x):\n    return {k: 1 for k in x}\n"),
    ("L7", "def f(x):\n    return x + 1.5\n"),
    ("L8", "def f(x):\n    return hash(x)\n"),
    ("L10", "def f(x):\n" + "    x = x + 1\n" * 40),
    ("L10", "A = '" + "x" * 120 + "'\n"),
    ("L12", "def _f(x):\n    return x\n"),
    ("L14", "A = '\u00e4'\n"),
    ("L15", "A = 1\nA = 2\n"),
    ("L15", "def f(sum):\n    return sum\n"),
    ("L16", "from springframe.two import other\n"),
    ("L17", "# a type of thing\n"),
    ("L19", "def f(x):\n    try:\n        x()\n    except Exception:\n        pass\n"),
    ("L20", "def f(x, y):\n    return x is y\n"),
    ("L25", "def f(x):\n    x.sort()\n"),
    ("L27", "def f(x):\n    return 2 ** x\n"),
    ("L3", "A = 10 ** 6\n"),
    ("L15", "A = {'x': [1]}\n"),
    ("L7", "def f(x):\n    return f'{x.y}'\n"),
    ("L21", "def f(x: int):\n    return x\n"),
    ("L28", "class C:\n    def __init__(self):\n        return None\n"),
    ("L23", "def f(x):\n    y = zip(x, x)\n    return y\n"),
    ("L23", "def f(x):\n    y = x.items()\n    return y\n"),
    ("L23", "def f(x):\n    return max(1, range(x))\n"),
    ("L24", "def f(x):\n    y = set(x)\n    return y\n"),
    ("L24", "def f(x):\n    return [y for y in set(x)]\n"),
    ("L18", "class C:\n    def m(self):\n        return 1\n\n\ndef f():\n    return [C]\n"),
    ("L18", "class C:\n    def m(self):\n        return 1\n\n\nclass D:\n    def n(self):\n        self.m = 1\n"),
    ("L18", "class C:\n    def m(self):\n        return 1\n\n    def m(self):\n        return 2\n"),
    ("L22", "def f(x):\n    return [len, x]\n"),
    ("L22", "def f(x):\n    return int(x, base=2)\n"),
    ("L25", "def f(x):\n    return x.append\n"),
    ("L26", "class C:\n    def title(self):\n        return 1\n"),
    ("L26", "class C:\n    def m(self):\n        self.values = 1\n"),
)


class TestForm(unittest.TestCase):
    def test_only_plain_files_lie_in_the_package(self):
        # Python itself writes __pycache__ when the package is used.
        found = sorted(path.name for path in PACKAGE.iterdir() if path.name != "__pycache__")
        self.assertIn("__init__.py", found)
        self.assertEqual([name for name in found if not name.endswith(".py")], [])

    def test_the_package_keeps_to_its_part_of_the_language(self):
        files = {path.name: path.read_text("utf-8") for path in PACKAGE.glob("*.py")}
        self.assertEqual(faults("springframe", files), [])

    def test_broken_rules_are_seen(self):
        for rule, text in BROKEN:
            with self.subTest(text):
                told = faults("springframe", {"one.py": text, "two.py": "name = 1\n"})
                self.assertTrue(any(f" {rule} " in fault for fault in told), told)

    def test_rings_of_imports_are_seen(self):
        files = {"one.py": "from springframe.two import b\na = 1\n",
                 "two.py": "from springframe.one import a\nb = 1\n"}
        self.assertEqual(len(faults("springframe", files)), 2)


if __name__ == "__main__":
    unittest.main()
