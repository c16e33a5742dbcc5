"""The package keeps to its part of Python."""

import pathlib
import unittest

from tests.form import PACKAGE, defined_in, drawn_from, findings, methods_and_values, plain_file_name
from tests.form_more import more_findings

FOLDER = pathlib.Path(__file__).resolve().parent.parent / PACKAGE
FILES = {path.stem: path.read_text(encoding="utf-8") for path in sorted(FOLDER.glob("*.py"))}

# What the finder must see, with the rule that it breaks.
BAD = [
    ("import sys\n", "L3"),
    ("from sys import path\n", "L2"),
    ("from .errors import BadText\n", "L2"),
    ("from swapstride.errors import *\n", "L2"),
    ("A = len('a')\n", "L3"),
    ("print(1)\n", "L3"),
    ("A = 1\nA = 2\n", "L15"),
    ("def f(*a):\n    pass\n", "L4"),
    ("def f(**a):\n    pass\n", "L4"),
    ("@f\ndef g():\n    pass\n", "L4"),
    ("class A:\n    x = 1\n", "L5"),
    ("class A(B, C):\n    pass\n", "L5"),
    ("def f(a):\n    del a\n", "L6"),
    ("def f(a):\n    assert a\n", "L6"),
    ("def f(a):\n    with a:\n        pass\n", "L6"),
    ("def f(a):\n    b = c = a\n", "L6"),
    ("def f(a):\n    a\n", "L6"),
    ("def f(a):\n    for b in a:\n        pass\n    else:\n        pass\n", "L6"),
    ("def f(a):\n    return a / 2\n", "L7"),
    ("def f(a):\n    return 1.5\n", "L7"),
    ("def f(a):\n    return b''\n", "L7"),
    ("def f(a):\n    return {b for b in a}\n", "L7"),
    ("def f(a):\n    return all(b for b in a)\n", "L7"),
    ("def f(a):\n    return [b for c in a for b in c]\n", "L7"),
    ("def f(a):\n    return f'{a + 1}'\n", "L7"),
    ("def f(a):\n    return (b := a)\n", "L7"),
    ("def f(a):\n    yield a\n", "L7"),
    ("def f(a):\n    return hash(a)\n", "L8"),
    ("def f(a):\n    print(a)\n", "L8"),
    ("def f(a):\n    return a" + " + a" * 40 + "\n", "L10"),
    ("def f(a):\n" + "    a = 1\n" * 40, "L10"),
    ("# none\n" * 401, "L10"),
    ("def _f(a):\n    pass\n", "L12"),
    ("def f(a):\n    for _ in a:\n        pass\n", "L12"),
    ("def f(a):\n\treturn a\n", "L14"),
    ("A = '\u00e4'\n", "L14"),
    ("def f(min):\n    pass\n", "L15"),
    ("def f(a):\n    max = a\n", "L15"),
    ("# its type\n", "L17"),
    ("def f(a):\n    return a.open\n", "L17"),
    ("def f(a):\n    try:\n        a()\n    except Exception:\n        pass\n", "L19"),
    ("def f(a):\n    try:\n        a()\n    except:\n        pass\n", "L19"),
    ("def f(a, b):\n    return a is b\n", "L20"),
    ("def f(a: int):\n    return a\n", "L21"),
    ("def f(a):\n    return a.sort()\n", "L25"),
    ("def f(a):\n    return a.title()\n", "L25"),
    ("from swapstride.words import is_name\ndef f(is_name):\n    pass\n", "L15"),
    ("from swapstride.words import is_name\ndef f(a):\n    is_name = a\n", "L15"),
    ("class A:\n    pass\ndef f(a):\n    return [A for A in a]\n", "L15"),
    ("def f(a):\n    return sorted(a, cmp=a)\n", "L22"),
    ("def f(a):\n    return a.split(sep=a)\n", "L22"),
    ("def f(a):\n    b = zip(a, a)\n", "L23"),
    ("def f(a):\n    return range(a)\n", "L23"),
    ("def f(a):\n    return a.items()\n", "L23"),
    ("def f(a):\n    return len(a.keys())\n", "L23"),
    ("def f(a):\n    b = set(a)\n", "L24"),
    ("def f(a):\n    for b in set(a):\n        pass\n", "L24"),
    ("def f(a):\n    return list(set(a))\n", "L24"),
    ("def f(a):\n    return [b for b in set(a) | set(a)]\n", "L24"),
    ("def f(a):\n    return a.append\n", "L25"),
    ("A = '%'\n", "L27"),
    ("A = '\\x41'\n", "L27"),
    ("def f(a):\n    return 2 ** a\n", "L27"),
]

# The same of what is found by how things are used.
MORE_BAD = [
    ("def f(a=[]):\n    pass\n", "L4"),
    ("def f(a):\n    return f'{a!s}'\n", "L7"),
    ("def f(a):\n    return g(lambda b: a, lambda b: b)\n", "L13"),
    ("A = [[1], [2]]\n", "L15"),
    ("A = {'a': [1]}\n", "L15"),
    ("A = [1]\ndef f(a):\n    A.append(a)\n", "L15"),
    ("A = [1]\ndef f(a):\n    A[0] = a\n", "L15"),
    ("A = [1]\ndef f(a):\n    return A\n", "L15"),
    ("A = {'a': 1}\ndef f(a):\n    g(A)\n", "L15"),
    ("def f(a):\n    return a.f_back\n", "L17"),
    ("def f(a):\n    return [Twice]\n", "L18"),
    ("def f(a):\n    b = Twice\n", "L18"),
    ("def f(a):\n    return g(Twice)\n", "L18"),
    ("def f(a):\n    Twice.at = a\n", "L18"),
    ("class A(AttributeError):\n    pass\n", "L18"),
    ("class A:\n    def f(self):\n        pass\n    def f(self):\n        pass\n", "L18"),
    ("def f(a):\n    raise a\n", "L19"),
    ("def f(a):\n    raise Twice\n", "L19"),
    ("def f(a):\n    raise Twice('') from Twice('')\n", "L19"),
    ("def f(a):\n    try:\n        g(a)\n    except ValueError:\n        pass\n", "L19"),
    ("def f(a):\n    try:\n        b = int(a) * 2\n    except ValueError:\n        pass\n", "L19"),
    ("def f(a):\n    try:\n        b = g(a)[0]\n    except IndexError:\n        pass\n", "L19"),
    ("def f(a):\n    try:\n        b = g(a)\n    except (Twice, LookupError):\n        pass\n", "L19"),
    ("def f(a):\n    b = len\n", "L22"),
    ("def f(a):\n    return g(sorted)\n", "L22"),
    ("def f(a):\n    return isinstance(a, set)\n", "L22"),
    ("def f(a):\n    return sorted(a, key=list)\n", "L22"),
    ("def f(a):\n    for b in a:\n        a.append(b)\n", "L23"),
    ("def f(a):\n    for b in a.items():\n        a[b] = 1\n", "L23"),
    ("def f(a):\n    for k, b in enumerate(a.b):\n        a.b[k] = b\n", "L23"),
    ("def f(a):\n    for b in a:\n        a += [b]\n", "L23"),
    ("def f(a):\n    b = {1, a}\n", "L24"),
    ("class A:\n    def sort(self):\n        pass\n", "L26"),
    ("class A:\n    def f(self):\n        self.items = 1\n", "L26"),
    ("class A:\n    def f(self):\n        self.args = 1\n", "L26"),
    ("class A:\n    def __init__(self):\n        return None\n", "L28"),
    ("class A:\n    def __len__(self):\n        self.a = 1\n        return 1\n", "L28"),
]

# What is within the rules, and near to what is not.
GOOD = [
    "A = [1]\ndef f(a):\n    return A[0] + len(A) + g(list(A))\n",
    "A = {'a': 1}\ndef f(a):\n    return A.get(a) if a in A else A['a']\n",
    "def f(a):\n    try:\n        return int(a)\n    except ValueError:\n        return 0\n",
    "def f(a):\n    try:\n        return a[0]\n    except IndexError:\n        return 0\n",
    "def f(a):\n    try:\n        return g(a)\n    except Twice as e:\n        raise NoName('') from e\n",
    "def f(a):\n    for b in list(a):\n        a.append(b)\n",
    "def f(a):\n    for b in a[0]:\n        a[1].append(b)\n",
    "def f(a):\n    return sorted(a, key=len) if isinstance(a, (int, str)) else a in {1, 2, 3}\n",
    "class A(B):\n    def __init__(self):\n        B.__init__(self)\n        self.count = 1\n",
]


class Form(unittest.TestCase):
    def test_nothing_but_plain_files_lies_in_the_folder(self):
        names = sorted(path.name for path in FOLDER.iterdir() if path.name != "__pycache__")
        self.assertIn("__init__.py", names)
        self.assertEqual([name for name in names if not plain_file_name(name)], [])

    def test_each_file_keeps_to_the_rules(self):
        for stem, text in FILES.items():
            with self.subTest(file=stem):
                self.assertEqual(findings(text) + more_findings(text), [])

    def test_each_name_is_drawn_from_the_file_that_defines_it(self):
        for stem, text in FILES.items():
            for source, names in drawn_from(text):
                with self.subTest(file=stem, source=source):
                    self.assertEqual([name for name in names if name not in defined_in(FILES[source])], [])

    def test_no_files_draw_from_one_another(self):
        left = {stem: [source for source, names in drawn_from(text)] for stem, text in FILES.items()}
        while left:
            free = [stem for stem, sources in left.items() if not any(source in left for source in sources)]
            self.assertNotEqual(free, [], f"a ring among {sorted(left)}")
            left = {stem: sources for stem, sources in left.items() if stem not in free}

    def test_no_name_is_a_method_here_and_a_value_there(self):
        pairs = [methods_and_values(text) for text in FILES.values()]
        methods = {name for each, _ in pairs for name in each}
        self.assertEqual(sorted(name for _, kept in pairs for name in kept if name in methods), [])

    def test_the_init_file_binds_no_name_of_a_file(self):
        self.assertEqual([name for name in defined_in(FILES["__init__"]) if name in FILES], [])


class Finder(unittest.TestCase):
    def test_each_bad_text_is_found(self):
        for text, rule in BAD:
            with self.subTest(text=text[:60]):
                self.assertIn(rule, [found for found, row in findings(text)])

    def test_each_bad_use_is_found(self):
        for text, rule in MORE_BAD:
            with self.subTest(text=text[:60]):
                self.assertIn(rule, [found for found, row in more_findings(text)])

    def test_good_uses_are_not_found(self):
        for text in GOOD:
            with self.subTest(text=text[:60]):
                self.assertEqual(more_findings(text), [])

    def test_bad_file_names_are_found(self):
        for name in ["A.py", "a.txt", "test_a.py", "site.py", "len.py", "enum.py", "1a.py", "a-b.py", "tests.py"]:
            with self.subTest(name=name):
                self.assertIs(plain_file_name(name), False)
