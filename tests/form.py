"""Finds where a file of the package leaves the part of Python that it keeps to.

Each finding is a tuple (rule, row). Not all that the rules say can be seen so;
what can't is left to the reader of the code.
"""

import ast
import builtins
import re

PACKAGE = "swapstride"

OWN_NAMES = set("""
    len range enumerate zip min max sum abs sorted reversed int str bool list tuple dict set frozenset isinstance ord
    repr any all divmod Exception ValueError TypeError KeyError IndexError LookupError ZeroDivisionError
    ArithmeticError OverflowError RuntimeError NotImplementedError AttributeError StopIteration""".split())
METHODS = set("""
    append clear copy count endswith extend find get index insert isalnum isalpha isdigit islower isspace isupper
    items join keys ljust lower lstrip partition pop remove replace reverse rfind rjust rpartition rsplit rstrip
    setdefault split splitlines startswith strip update upper values zfill bit_length add discard""".split())
DUNDERS = {"__init__", "__eq__", "__repr__", "__str__", "__len__"}
NO_WORDS = set("""
    type typing typing_extensions enum Enum IntEnum StrEnum Flag IntFlag Generic Protocol ABC ABCMeta namedtuple
    NamedTuple TypedDict TYPE_CHECKING abstractmethod""".split())
NO_PIECES = ("dataclass", "overload", "contextmanager")
NO_NAMES = set("""
    register mro elements open input version_info with_traceback add_note attrgetter breakpoint builtins compile
    copyright credits delattr dir eval exec exit gc getattr globals hasattr help id importlib license locals
    methodcaller os quit setattr super type vars sys chr format format_map""".split())
NO_FILES = {"test", "tests", "testing", "site", "conftest", "sitecustomize", "usercustomize"}

STATEMENTS = (
    ast.Assign, ast.AugAssign, ast.If, ast.While, ast.For, ast.Return, ast.Break, ast.Continue, ast.Pass, ast.Raise,
    ast.Try, ast.Expr, ast.FunctionDef, ast.ClassDef, ast.ImportFrom)
EXPRESSIONS = (
    ast.Constant, ast.List, ast.Tuple, ast.Dict, ast.Set, ast.BinOp, ast.UnaryOp, ast.BoolOp, ast.Compare, ast.IfExp,
    ast.Call, ast.Attribute, ast.Subscript, ast.Slice, ast.ListComp, ast.JoinedStr, ast.FormattedValue, ast.Name,
    ast.Lambda)
# What is walked on the spot, and the names within which it may be walked; keywords of Python's own names.
WALKED = {"zip", "enumerate", "reversed", "range"}
WALKED_METHODS = {"items", "keys", "values"}
WALKERS = {"list", "tuple", "dict", "sorted", "sum", "any", "all", "enumerate", "zip"}
KEYWORDS = {"sorted": {"key", "reverse"}, "min": {"key", "default"}, "max": {"key", "default"}, "sum": {"start"},
            "enumerate": {"start"}, "zip": {"strict"}}
PYTHONS_METHODS = {name for own in (str, int, list, tuple, dict, set, frozenset, bytes) for name in dir(own)}


def plain_file_name(name):
    """Whether a file of the package may bear a name [L1, L14]."""
    if name in ("__init__.py", "__main__.py"):
        return True
    if not re.fullmatch(r"[a-z][a-z0-9_]*\.py", name):
        return False
    stem = name[:-3]
    return stem not in NO_FILES | NO_WORDS and not stem.startswith("test_") and not hasattr(builtins, stem)


def findings(text):
    """All findings in the text of a file other than __main__.py."""
    tree = ast.parse(text)
    found = in_signs(text) + in_top(tree) + in_bindings(tree) + in_walks(tree)
    for node in ast.walk(tree):
        found += in_statement(node) + in_expression(node) + in_name(node)
        if isinstance(node, (ast.FunctionDef, ast.ClassDef)):
            found += in_definition(node)
    return sorted(set(found))


def in_signs(text):
    found = []
    rows = text.split("\n")
    if len(rows) - 1 > 400:
        found.append(("L10", 401))
    for number, row in enumerate(rows, start=1):
        if len(row) > 120:
            found.append(("L10", number))
        if any(not " " <= sign <= "~" for sign in row):
            found.append(("L14", number))
        if set(re.findall(r"\w+", row)) & NO_WORDS or any(piece in row for piece in NO_PIECES):
            found.append(("L17", number))
        if re.search(r"\\[^nt\\'\"]", row):
            found.append(("L27", number))
    return found


def in_top(tree):
    found = []
    bound = []
    for place, node in enumerate(tree.body):
        if isinstance(node, (ast.FunctionDef, ast.ClassDef)):
            bound.append(node.name)
        elif isinstance(node, ast.ImportFrom):
            bound += [alias.asname or alias.name for alias in node.names]
            if node.level or not (node.module or "").startswith(PACKAGE + ".") or node.names[0].name == "*":
                found.append(("L2", node.lineno))
        elif isinstance(node, ast.Assign) and isinstance(node.targets[0], ast.Name) and is_plain(node.value):
            bound.append(node.targets[0].id)
        elif not (place == 0 and is_docstring(node)):
            found.append(("L3", node.lineno))
    if len(bound) != len(set(bound)):
        found.append(("L15", 1))
    return found


def is_docstring(node):
    return isinstance(node, ast.Expr) and isinstance(node.value, ast.Constant) and isinstance(node.value.value, str)


def is_plain(node):
    if isinstance(node, (ast.List, ast.Tuple)):
        return all(is_plain(each) for each in node.elts)
    if isinstance(node, ast.Dict):
        return all(is_plain(each) for each in node.keys + node.values)
    return isinstance(node, (ast.Constant, ast.Name))


def in_definition(node):
    found = []
    if node.decorator_list:
        found.append(("L4", node.lineno))
    if isinstance(node, ast.FunctionDef):
        spread = node.args.vararg or node.args.kwarg or node.args.kwonlyargs or node.args.posonlyargs
        if spread:
            found.append(("L4", node.lineno))
        if node.end_lineno - node.lineno + 1 > 40:
            found.append(("L10", node.lineno))
        if node.returns or any(each.annotation for each in node.args.args):
            found.append(("L21", node.lineno))
        found += [("L15", node.lineno) for each in node.args.args if hasattr(builtins, each.arg)]
    else:
        if len(node.bases) > 1 or node.keywords:
            found.append(("L5", node.lineno))
        for each in node.body:
            if not isinstance(each, ast.FunctionDef) and not is_docstring(each):
                found.append(("L5", each.lineno))
    return found


def in_bindings(tree):
    """Parameters and locals that are called like a class or an import of the file [L15]."""
    taken = {node.name for node in tree.body if isinstance(node, ast.ClassDef)}
    for node in tree.body:
        if isinstance(node, ast.ImportFrom):
            taken |= {alias.asname or alias.name for alias in node.names}
    found = []
    for node in ast.walk(tree):
        if isinstance(node, ast.arg) and node.arg in taken:
            found.append(("L15", node.lineno))
        if isinstance(node, ast.Name) and isinstance(node.ctx, ast.Store) and node.id in taken:
            found.append(("L15", node.lineno))
    return found


def in_walks(tree):
    """What is kept instead of being walked or asked on the spot, and keywords of Python's own [L22, L23, L24]."""
    parents = {child: parent for parent in ast.walk(tree) for child in ast.iter_child_nodes(parent)}
    found = []
    for node in ast.walk(tree):
        if isinstance(node, ast.Call):
            name = node.func.id if isinstance(node.func, ast.Name) else None
            method = node.func.attr if isinstance(node.func, ast.Attribute) else None
            if (name in WALKED or method in WALKED_METHODS) and not is_walked(node, parents[node]):
                found.append(("L23", node.lineno))
            if name in ("set", "frozenset") and not is_asked(node, parents):
                found.append(("L24", node.lineno))
            if {keyword.arg for keyword in node.keywords} - KEYWORDS.get(name, set()) and hasattr(builtins, name or ""):
                found.append(("L22", node.lineno))
            if node.keywords and method in METHODS:
                found.append(("L22", node.lineno))
        if isinstance(node, ast.Attribute) and node.attr in METHODS and not is_called(node, parents[node]):
            found.append(("L25", node.lineno))
    return found


def is_called(node, parent):
    return isinstance(node.ctx, ast.Store) or isinstance(parent, ast.Call) and parent.func is node


def is_walked(node, parent):
    if isinstance(parent, (ast.For, ast.comprehension)):
        return parent.iter is node
    if not isinstance(parent, ast.Call) or not parent.args or parent.args[0] is not node:
        return isinstance(parent, ast.Call) and isinstance(parent.func, ast.Name) and parent.func.id == "zip"
    if isinstance(parent.func, ast.Name):
        return parent.func.id in WALKERS or parent.func.id in ("min", "max") and len(parent.args) == 1
    return parent.func.attr == "join" and isinstance(parent.func.value, ast.Constant)


def is_asked(node, parents):
    parent = parents[node]
    while isinstance(parent, ast.BinOp):
        parent = parents[parent]
    if isinstance(parent, ast.Compare):
        return isinstance(parent.ops[0], (ast.In, ast.NotIn, ast.Eq, ast.NotEq))
    return (isinstance(parent, ast.Call) and isinstance(parent.func, ast.Name) and parent.func.id in ("sorted", "len")
            and not parent.keywords)


def in_statement(node):
    if not isinstance(node, ast.stmt):
        return []
    found = []
    if not isinstance(node, STATEMENTS):
        found.append(("L6", node.lineno))
    if isinstance(node, (ast.For, ast.While)) and node.orelse:
        found.append(("L6", node.lineno))
    if isinstance(node, ast.Assign) and len(node.targets) != 1:
        found.append(("L6", node.lineno))
    if isinstance(node, ast.Expr) and not isinstance(node.value, ast.Call) and not is_docstring(node):
        found.append(("L6", node.lineno))
    if isinstance(node, ast.Try):
        found += in_try(node)
    return found


def in_try(node):
    found = []
    if node.finalbody:
        found.append(("L6", node.lineno))
    for handler in node.handlers:
        named = [each.id for each in ast.walk(handler.type) if isinstance(each, ast.Name)] if handler.type else []
        if not named or set(named) & {"Exception", "TypeError"}:
            found.append(("L19", handler.lineno))
    return found


def in_expression(node):
    if not isinstance(node, ast.expr):
        return []
    found = []
    if not isinstance(node, EXPRESSIONS):
        found.append(("L7", node.lineno))
    if isinstance(node, ast.Constant) and not isinstance(node.value, (int, str, bool)) and node.value is not None:
        found.append(("L7", node.lineno))
    if isinstance(node, ast.Constant) and isinstance(node.value, str) and "%" in node.value:
        found.append(("L27", node.lineno))
    if isinstance(node, ast.BinOp) and isinstance(node.op, (ast.Div, ast.MatMult)):
        found.append(("L7", node.lineno))
    if isinstance(node, ast.BinOp) and isinstance(node.op, ast.Pow) and not isinstance(node.right, ast.Constant):
        found.append(("L27", node.lineno))
    if isinstance(node, ast.ListComp) and (len(node.generators) > 1 or len(node.generators[0].ifs) > 1):
        found.append(("L7", node.lineno))
    if isinstance(node, ast.FormattedValue) and (node.format_spec or not isinstance(node.value, ast.Name)):
        found.append(("L7", node.lineno))
    if isinstance(node, ast.Compare) and any(isinstance(op, (ast.Is, ast.IsNot)) for op in node.ops):
        sides = [node.left] + node.comparators
        if not any(isinstance(side, ast.Constant) and side.value in (None, True, False) for side in sides):
            found.append(("L20", node.lineno))
    return found


def in_name(node):
    found = []
    if isinstance(node, ast.Name):
        if isinstance(node.ctx, ast.Store) and hasattr(builtins, node.id):
            found.append(("L15", node.lineno))
        if hasattr(builtins, node.id) and node.id not in OWN_NAMES:
            found.append(("L8", node.lineno))
        found += name_findings(node.id, node.lineno)
    if isinstance(node, ast.Attribute):
        found += name_findings(node.attr, node.lineno)
        if node.attr in PYTHONS_METHODS - METHODS - DUNDERS:
            found.append(("L25", node.lineno))
    if isinstance(node, (ast.FunctionDef, ast.ClassDef)):
        found += name_findings(node.name, node.lineno)
    if isinstance(node, ast.arg):
        found += name_findings(node.arg, node.lineno)
    return found


def name_findings(name, row):
    found = []
    if name not in DUNDERS and not re.fullmatch(r"[A-Za-z][A-Za-z0-9_]*", name):
        found.append(("L12", row))
    if name in NO_NAMES:
        found.append(("L17", row))
    return found


def drawn_from(text):
    """The files, without their endings, that a file draws from, each with the names it takes."""
    rows = [node for node in ast.parse(text).body if isinstance(node, ast.ImportFrom)]
    return [(node.module[len(PACKAGE) + 1:], [alias.name for alias in node.names]) for node in rows]


def defined_in(text):
    """The names that a file's own top defines."""
    defined = []
    for node in ast.parse(text).body:
        if isinstance(node, (ast.FunctionDef, ast.ClassDef)):
            defined.append(node.name)
        elif isinstance(node, ast.Assign):
            defined += [target.id for target in node.targets]
    return defined


def methods_and_values(text):
    """The names of all methods of a file's classes, and of all values that it gives to objects."""
    methods = set()
    kept = set()
    for node in ast.walk(ast.parse(text)):
        if isinstance(node, ast.ClassDef):
            methods |= {each.name for each in node.body if isinstance(each, ast.FunctionDef)}
        if isinstance(node, ast.Attribute) and isinstance(node.ctx, ast.Store):
            kept.add(node.attr)
    return methods, kept
