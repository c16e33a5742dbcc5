"""Finds more of where a file of the package leaves its part of Python: how names, classes, errors and loops are used.

Each finding is a tuple (rule, row), as in tests.form.
"""

import ast
import builtins
import re

from tests.form import DUNDERS, METHODS, PYTHONS_METHODS

CHANGERS = {"append", "clear", "extend", "insert", "pop", "remove", "reverse", "setdefault", "update"}
VALUE_NAMES = set("count index title find get join lower upper split strip copy add".split())
NO_VALUE_NAMES = {"args", "encode", "format", "sort"}
READERS = {"len", "list", "tuple", "dict", "sorted", "sum", "min", "max", "any", "all", "enumerate", "zip", "reversed"}
READING_METHODS = {"get", "items", "keys", "values", "index", "count"}
KEY_NAMES = {"len", "int", "str", "abs", "sum", "min", "max", "tuple"}
ASKED_KINDS = {"int", "str", "bool", "list", "tuple", "dict"}
HELD_ERRORS = {"ValueError": {"int", "str", "index", "remove"}, "LookupError": {"int", "str", "index", "remove"},
               "IndexError": set()}
FRAME_NAMES = re.compile(r"(f|tb|co|gi|cr|ag)_[a-z]+")
CLASS_NAME = re.compile(r"[A-Z][A-Za-z]*[a-z][A-Za-z]*")


def more_findings(text):
    """All findings in the text of a file other than __main__.py."""
    tree = ast.parse(text)
    parents = {child: parent for parent in ast.walk(tree) for child in ast.iter_child_nodes(parent)}
    found = in_top_things(tree, parents)
    for node in ast.walk(tree):
        found += in_sets(node, parents) + in_functions(node) + in_errors(node) + in_names(node, parents)
        found += in_loops(node) + in_class(node)
    return sorted(set(found))


def in_top_things(tree, parents):
    """Lists and dicts of a file's top that hold others, or that are not only read [L15]."""
    found = []
    tops = set()
    for node in tree.body:
        if isinstance(node, ast.Assign) and isinstance(node.value, (ast.List, ast.Dict)):
            tops.add(node.targets[0].id)
            inner = [each for each in ast.walk(node.value) if isinstance(each, (ast.List, ast.Dict))]
            found += [("L15", node.lineno)] if len(inner) > 1 else []
    for node in ast.walk(tree):
        if isinstance(node, ast.Name) and node.id in tops and isinstance(node.ctx, ast.Load):
            found += [] if is_only_read(node, parents) else [("L15", node.lineno)]
    return found


def is_only_read(node, parents):
    parent = parents[node]
    if isinstance(parent, ast.Subscript):
        return parent.value is node and isinstance(parent.ctx, ast.Load)
    if isinstance(parent, ast.Attribute):
        return parent.attr in READING_METHODS
    if isinstance(parent, ast.Call):
        return isinstance(parent.func, ast.Name) and parent.func.id in READERS
    return isinstance(parent, (ast.Compare, ast.For, ast.comprehension))


def in_sets(node, parents):
    """Sets that are written out [L13, L24], lambdas alike on one row [L13]."""
    found = []
    if isinstance(node, ast.Set) and not isinstance(parents[node], ast.Compare):
        found.append(("L24", node.lineno))
    if isinstance(node, ast.stmt) and not isinstance(node, (ast.FunctionDef, ast.ClassDef)):
        seen = [(each.lineno, ast.dump(each.args)) for each in ast.walk(node) if isinstance(each, ast.Lambda)]
        found += [("L13", node.lineno)] if len(seen) != len(set(seen)) else []
    return found


def in_functions(node):
    """Defaults that aren't plain [L4], what methods with two underscores do [L28], f-strings [L7]."""
    found = []
    if isinstance(node, ast.FunctionDef):
        plain = (ast.Constant, ast.UnaryOp, ast.Tuple, ast.Name)
        found += [("L4", node.lineno) for each in node.args.defaults if not isinstance(each, plain)]
        inner = list(ast.walk(node))
        if node.name == "__init__" and any(isinstance(each, ast.Return) and each.value for each in inner):
            found.append(("L28", node.lineno))
        if node.name in DUNDERS - {"__init__"}:
            stored = [each for each in inner if isinstance(getattr(each, "ctx", None), ast.Store)
                      and not isinstance(each, ast.Name) or isinstance(each, ast.AugAssign)]
            found += [("L28", node.lineno)] if stored else []
    if isinstance(node, ast.FormattedValue) and node.conversion not in (-1, ord("r")):
        found.append(("L7", node.lineno))
    return found


def in_errors(node):
    """Errors that are raised other than on the spot, or taken too widely [L19]."""
    found = []
    if isinstance(node, ast.Raise):
        if not isinstance(node.exc, ast.Call):
            found.append(("L19", node.lineno))
        if node.cause is not None and not isinstance(node.cause, ast.Name):
            found += [] if isinstance(node.cause, ast.Constant) and node.cause.value is None else [("L19", node.lineno)]
    if isinstance(node, ast.Try):
        for handler in node.handlers:
            taken = [each.id for each in ast.walk(handler.type) if isinstance(each, ast.Name)] if handler.type else []
            for name in taken:
                if name in HELD_ERRORS and not is_narrow(node.body, HELD_ERRORS[name]):
                    found.append(("L19", handler.lineno))
    return found


def is_narrow(body, calls):
    """Whether a try has nothing in it but calls of some names, and no other thing by which it may fail."""
    for node in [each for part in body for each in ast.walk(part)]:
        if isinstance(node, ast.Call):
            name = node.func.id if isinstance(node.func, ast.Name) else node.func.attr
            if name not in calls:
                return False
        if isinstance(node, (ast.JoinedStr, ast.Slice, ast.Lambda, ast.Mult, ast.Pow, ast.Mod, ast.LShift, ast.RShift)):
            return False
    return True


def in_names(node, parents):
    """Python's own names kept as values [L22], classes kept or handed on [L18], names of frames [L17]."""
    found = []
    if isinstance(node, ast.Attribute) and FRAME_NAMES.fullmatch(node.attr):
        found.append(("L17", node.lineno))
    if not isinstance(node, ast.Name) or not isinstance(node.ctx, ast.Load):
        return found
    if FRAME_NAMES.fullmatch(node.id):
        found.append(("L17", node.lineno))
    if CLASS_NAME.fullmatch(node.id) and not is_class_use(node, parents):
        found.append(("L18", node.lineno))
    elif hasattr(builtins, node.id) and not CLASS_NAME.fullmatch(node.id) and not is_own_use(node, parents):
        found.append(("L22", node.lineno))
    return found


def is_class_use(node, parents):
    parent = parents[node]
    if isinstance(parent, ast.Tuple):
        parent = parents[parent]
    if isinstance(parent, ast.Call):
        return parent.func is node or is_isinstance(parent)
    if isinstance(parent, ast.Attribute):
        return parent.attr == "__init__" and isinstance(parent.ctx, ast.Load)
    return isinstance(parent, (ast.ClassDef, ast.ExceptHandler))


def is_own_use(node, parents):
    parent = parents[node]
    if isinstance(parent, ast.keyword):
        return parent.arg == "key" and node.id in KEY_NAMES
    if isinstance(parent, ast.Tuple):
        return is_isinstance(parents[parent]) and node.id in ASKED_KINDS
    if is_isinstance(parent) and parent.func is not node:
        return node.id in ASKED_KINDS
    return isinstance(parent, ast.Call) and parent.func is node


def is_isinstance(node):
    return isinstance(node, ast.Call) and isinstance(node.func, ast.Name) and node.func.id == "isinstance"


def in_loops(node):
    """What is changed while it is walked [L23]."""
    if not isinstance(node, ast.For):
        return []
    walked = {ast.unparse(each) for each in walked_by(node.iter)}
    for each in [inner for part in node.body for inner in ast.walk(part)]:
        if isinstance(each, ast.Subscript) and isinstance(each.ctx, ast.Store) and ast.unparse(each.value) in walked:
            return [("L23", each.lineno)]
        if isinstance(each, ast.AugAssign) and ast.unparse(each.target) in walked:
            return [("L23", each.lineno)]
        if isinstance(each, ast.Call) and isinstance(each.func, ast.Attribute) and each.func.attr in CHANGERS:
            if ast.unparse(each.func.value) in walked:
                return [("L23", each.lineno)]
    return []


def walked_by(node):
    """The things that a loop walks, themselves or through what walks them."""
    if not isinstance(node, ast.Call):
        return [node]
    if isinstance(node.func, ast.Attribute):
        return [node.func.value] if node.func.attr in ("items", "keys", "values") else []
    through = isinstance(node.func, ast.Name) and node.func.id in ("enumerate", "zip", "reversed")
    return [inner for each in node.args for inner in walked_by(each)] if through else []


def in_class(node):
    """Methods that stand twice and bases of errors [L18], names of methods and values [L26]."""
    found = []
    if isinstance(node, ast.ClassDef):
        methods = [each.name for each in node.body if isinstance(each, ast.FunctionDef)]
        found += [("L18", node.lineno)] if len(methods) != len(set(methods)) else []
        bases = [each.id for each in node.bases if isinstance(each, ast.Name)]
        found += [("L18", node.lineno) for name in bases if name in ("StopIteration", "AttributeError")]
        found += [("L26", node.lineno) for name in methods if name in PYTHONS_METHODS - METHODS - DUNDERS]
    if isinstance(node, ast.Attribute) and isinstance(node.ctx, ast.Store):
        if CLASS_NAME.fullmatch(ast.unparse(node.value)):
            found.append(("L18", node.lineno))
        if node.attr in NO_VALUE_NAMES or node.attr in PYTHONS_METHODS - VALUE_NAMES:
            found.append(("L26", node.lineno))
    return found
