import os
import re
import unittest

from tests.language_rules import all_faults

ROOT = os.path.dirname(os.path.dirname(os.path.abspath(__file__)))
PACKAGE = os.path.join(ROOT, "blindrepair")


def files():
    """The texts of the files of the package."""
    found = {}
    for name in sorted(os.listdir(PACKAGE)):
        if name != "__pycache__":
            with open(os.path.join(PACKAGE, name), encoding="utf-8", newline="") as file:
                found[name] = file.read()
    return found


class LanguageTests(unittest.TestCase):

    def test_the_folder_has_python_files_alone(self):
        for name in files():
            self.assertTrue(re.fullmatch(r"[a-z][a-z_]*\.py|__init__\.py", name), name)
        self.assertIn("__init__.py", files())
        self.assertLess(len(files()), 100)

    def test_no_file_breaks_a_rule(self):
        self.assertEqual(all_faults(files()), [])

    def test_the_checks_find_faults(self):
        """Each of these files breaks the rule that stands beside it."""
        for rule, text in (
                ("L2", "import sys\n"), ("L2", "from os import path\n"), ("L3", "print(1)\n"), ("L5", "def f(x):\n    return max(x)\n"),
                ("L5", "class A:\n    def __getitem__(self, at):\n        return 1\n"),
                ("L5", "class A:\n    def __eq__(self, other):\n        other.x = 1\n        return True\n"),
                ("L5", "def f(x):\n    x.append(1)\n\n\nclass A:\n    def __eq__(self, other):\n        return f(other)\n"),
                ("L7", "X = 1.5\n"), ("L6/L7/L24", "def f(x):\n    return any(y for y in x)\n"),
                ("L8", "def f(x):\n    return hash(x)\n"), ("L10", "X = 1  # " + "x" * 120 + "\n"),
                ("L10", "def f(x):\n" + "    x += 1\n" * 40 + "    return x\n"), ("L14", "# \u00e9\n"),
                ("L15", "def f(list):\n    return list\n"), ("L17", "def f(x):\n    return x.type\n"),
                ("L20", "def f(x, y):\n    return x is y\n"), ("L22", "def f(x):\n    return sorted([str(y) for y in x], reverse=True)\n"),
                ("L23", "def f(x):\n    return zip(x, x)\n"), ("L24", "def f(x):\n    return set(x)\n"),
                ("L25", "def f(x):\n    return x.encode_all()\n"), ("L26", "def f(x):\n    x.items = 1\n"),
                ("L7", "def f(x):\n    return x % 2\n"), ("L27", "def f(x):\n    return 2 ** x\n"),
                ("L5", "def f(x):\n    x += x\n    return x\n"), ("L5", "def f(x):\n    x.a |= x.a\n"),
                ("L5", "def f(x):\n    x[0] += len(x[0])\n"), ("L5", "def f(x):\n    x.extend(x)\n"),
                ("L5", "def f(x):\n    x.a.extend([y for y in x.a])\n"), ("L5", "def f(x):\n    x[1].update(dict(x[1]))\n"),
                ("L23", "def f(x):\n    for y in x:\n        x.append(y)\n"),
                ("L23", "def f(x):\n    for y, z in enumerate(x.a):\n        del x.a[y]\n"),
                ("L23", "def f(x):\n    for y, z in x.items():\n        x[y] = 1\n"),
                ("L23", "def f(x):\n    return [x.pop() for y in x]\n"),
                ("L23", "def f(x, y):\n    for z in x if y else y or x.a:\n        x.a += [z]\n"),
                ("L18", "class A:\n    def b(self):\n        self.b = 1\n"),
                ("L5", "class A:\n    @property\n    def b(self):\n        return 1\n\n\ndef f(x):\n    x.b = 1\n"),
                ("L23", "def f(x):\n    yield x\n\n\nclass A:\n    def f(self):\n        return 1\n"),
                ("L19", "def f(x):\n    try:\n        return x[0]\n    except Exception:\n        return 1\n"),
                ("L19", "def f(x):\n    raise x\n"), ("L19", "def f(x):\n    raise\n"),
                ("L6", "class A:\n    def __exit__(self, kind, value, trace):\n        self.a = self.b + 1\n"),
                ("L6", "def f(x):\n    try:\n        x.a = 1\n    finally:\n        x.a = 2\n"),
                ("L8", "def f(x):\n    return x.__class__\n"),
                ("L18", "class A:\n    def b(self):\n        return 1\n\n\nclass B:\n    def c(self):\n        self.b = 1\n"),
                ("L27", "X = \"%\"\n"), ("L28", "class A:\n    def __len__(self):\n        return self.n\n")):
            self.assertIn(rule, [fault[1] for fault in all_faults({"file.py": text})], text)

    def test_each_file_class_and_function_that_is_no_method_tells_what_it_is(self):
        for name, text in files().items():
            self.assertTrue(text.startswith('"""'), name)
            for found in re.finditer(r"^(?:def|class) (\w+)[^\n]*:\n(?: +[^\n]*\):\n)?( +)(\S+)", text, re.MULTILINE):
                self.assertTrue(found.group(3).startswith('"""'), found.group(1))
