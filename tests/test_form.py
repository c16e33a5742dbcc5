"""The package keeps to its part of Python."""

import pathlib
import unittest

from tests.form import PACKAGE, defined_in, drawn_from, findings, methods_and_values, plain_file_name

FOLDER = pathlib.Path(__file__).resolve().parent.parent / PACKAGE
FILES = {path.stem: path.read_text(encoding="utf-8") for path in sorted(FOLDER.glob("*.py"))}

# What the finder must see, with the rule that it breaks.
BAD = [
    ("import sys\n", "L3"),
    ("from sys import path\n", "L2"),
    ("from .errors import BadText\n", "L2"),
    ("from swapstride.errors import *\n", "L2"),
    ("A = len('a')\n", "L3"),
    ("print(1)\n", "L3"),
    ("A = 1\nA = 2\n", "L15"),
    ("def f(*a):\n    pass\n", "L4"),
    ("def f(**a):\n    pass\n", "L4"),
    ("@f\ndef g():\n    pass\n", "L4"),
    ("class A:\n    x = 1\n", "L5"),
    ("class A(B, C):\n    pass\n", "L5"),
    ("def f(a):\n    del a\n", "L6"),
    ("def f(a):\n    assert a\n", "L6"),
    ("def f(a):\n    with a:\n        pass\n", "L6"),
    ("def f(a):\n    b = c = a\n", "L6"),
    ("def f(a):\n    a\n", "L6"),
    ("def f(a):\n    for b in a:\n        pass\n    else:\n        pass\n", "L6"),
    ("def f(a):\n    return a / 2\n", "L7"),
    ("def f(a):\n    return 1.5\n", "L7"),
    ("def f(a):\n    return b''\n", "L7"),
    ("def f(a):\n    return {b for b in a}\n", "L7"),
    ("def f(a):\n    return all(b for b in a)\n", "L7"),
    ("def f(a):\n    return [b for c in a for b in c]\n", "L7"),
    ("def f(a):\n    return f'{a + 1}'\n", "L7"),
    ("def f(a):\n    return (b := a)\n", "L7"),
    ("def f(a):\n    yield a\n", "L7"),
    ("def f(a):\n    return hash(a)\n", "L8"),
    ("def f(a):\n    print(a)\n", "L8"),
    ("def f(a):\n    return a" + " + a" * 40 + "\n", "L10"),
    ("def f(a):\n" + "    a = 1\n" * 40, "L10"),
    ("# none\n" * 401, "L10"),
    ("def _f(a):\n    pass\n", "L12"),
    ("def f(a):\n    for _ in a:\n        pass\n", "L12"),
    ("def f(a):\n\treturn a\n", "L14"),
    ("A = '\u00e4'\n", "L14"),
    ("def f(min):\n    pass\n", "L15"),
    ("def f(a):\n    max = a\n", "L15"),
    ("# its type\n", "L17"),
    ("def f(a):\n    return a.open\n", "L17"),
    ("def f(a):\n    try:\n        a()\n    except Exception:\n        pass\n", "L19"),
    ("def f(a):\n    try:\n        a()\n    except:\n        pass\n", "L19"),
    ("def f(a, b):\n    return a is b\n", "L20"),
    ("def f(a: int):\n    return a\n", "L21"),
    ("def f(a):\n    return a.sort()\n", "L25"),
    ("def f(a):\n    return a.title()\n", "L25"),
    ("from swapstride.words import is_name\ndef f(is_name):\n    pass\n", "L15"),
    ("from swapstride.words import is_name\ndef f(a):\n    is_name = a\n", "L15"),
    ("class A:\n    pass\ndef f(a):\n    return [A for A in a]\n", "L15"),
    ("def f(a):\n    return sorted(a, cmp=a)\n", "L22"),
    ("def f(a):\n    return a.split(sep=a)\n", "L22"),
    ("def f(a):\n    b = zip(a, a)\n", "L23"),
    ("def f(a):\n    return range(a)\n", "L23"),
    ("def f(a):\n    return a.items()\n", "L23"),
    ("def f(a):\n    return len(a.keys())\n", "L23"),
    ("def f(a):\n    b = set(a)\n", "L24"),
    ("def f(a):\n    for b in set(a):\n        pass\n", "L24"),
    ("def f(a):\n    return list(set(a))\n", "L24"),
    ("def f(a):\n    return [b for b in set(a) | set(a)]\n", "L24"),
    ("def f(a):\n    return a.append\n", "L25"),
    ("A = '%'\n", "L27"),
    ("A = '\\x41'\n", "L27"),
    ("def f(a):\n    return 2 ** a\n", "L27"),
]


class Form(unittest.TestCase):
    def test_nothing_but_plain_files_lies_in_the_folder(self):
        names = sorted(path.name for path in FOLDER.iterdir() if path.name != "__pycache__")
        self.assertIn("__init__.py", names)
        self.assertEqual([name for name in names if not plain_file_name(name)], [])

    def test_each_file_keeps_to_the_rules(self):
        for stem, text in FILES.items():
            with self.subTest(file=stem):
                self.assertEqual(findings(text), [])

    def test_each_name_is_drawn_from_the_file_that_defines_it(self):
        for stem, text in FILES.items():
            for source, names in drawn_from(text):
                with self.subTest(file=stem, source=source):
                    self.assertEqual([name for name in names if name not in defined_in(FILES[source])], [])

    def test_no_files_draw_from_one_another(self):
        left = {stem: [source for source, names in drawn_from(text)] for stem, text in FILES.items()}
        while left:
            free = [stem for stem, sources in left.items() if not any(source in left for source in sources)]
            self.assertNotEqual(free, [], f"a ring among {sorted(left)}")
            left = {stem: sources for stem, sources in left.items() if stem not in free}

    def test_no_name_is_a_method_here_and_a_value_there(self):
        pairs = [methods_and_values(text) for text in FILES.values()]
        methods = {name for each, _ in pairs for name in each}
        self.assertEqual(sorted(name for _, kept in pairs for name in kept if name in methods), [])

    def test_the_init_file_binds_no_name_of_a_file(self):
        self.assertEqual([name for name in defined_in(FILES["__init__"]) if name in FILES], [])


class Finder(unittest.TestCase):
    def test_each_bad_text_is_found(self):
        for text, rule in BAD:
            with self.subTest(text=text[:60]):
                self.assertIn(rule, [found for found, row in findings(text)])

    def test_bad_file_names_are_found(self):
        for name in ["A.py", "a.txt", "test_a.py", "site.py", "len.py", "enum.py", "1a.py", "a-b.py", "tests.py"]:
            with self.subTest(name=name):
                self.assertIs(plain_file_name(name), False)
