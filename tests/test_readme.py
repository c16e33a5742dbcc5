"""What README.md shows is so."""

import ast
import pathlib
import unittest

README = pathlib.Path(__file__).resolve().parent.parent / "README.md"


def shown_rows():
    """The statements of the example, each with the value that is said of it, None where none is."""
    code = README.read_text(encoding="utf-8").split("```python\n")[1].split("```")[0]
    rows = code.split("\n")
    for node in ast.parse(code).body:
        remark = rows[node.end_lineno - 1].partition("  # ")[2].strip()
        yield node, remark


def said(remark):
    """The value with which a remark begins, as a list of that one; none where it begins with words."""
    for end in range(len(remark), 0, -1):
        text = remark[:end].rstrip()
        # With a comma behind it, a value would be read as a tuple.
        if not text.endswith(","):
            try:
                return [ast.literal_eval(text)]
            except (SyntaxError, ValueError):
                continue
    return []


class Readme(unittest.TestCase):
    def test_the_example(self):
        names = {}
        seen = 0
        for node, remark in shown_rows():
            if not isinstance(node, ast.Expr):
                exec(compile(ast.Module([node], []), "README.md", "exec"), names)
                continue
            value = eval(compile(ast.Expression(node.value), "README.md", "eval"), names)
            # What is said of a call by words alone is not held against it.
            for told in said(remark):
                with self.subTest(row=ast.unparse(node)):
                    self.assertEqual(value, told)
                    seen += 1
        self.assertGreater(seen, 40)
