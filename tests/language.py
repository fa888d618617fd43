"""Looks a package file over by those rules of LANGUAGE.md that can be seen in its tree; tells rows (rule, line)."""

import ast
import builtins
import re

OWN_NAMES = set(
    "len range enumerate zip min max sum abs sorted reversed int str bool list tuple dict set frozenset isinstance "
    "ord repr any all divmod Exception ValueError TypeError KeyError IndexError LookupError ZeroDivisionError "
    "ArithmeticError OverflowError RuntimeError NotImplementedError AttributeError StopIteration".split()
)
OWN_METHODS = set(
    "append clear copy count endswith extend find get index insert isalnum isalpha isdigit islower isspace isupper "
    "items join keys ljust lower lstrip partition pop remove replace reverse rfind rjust rpartition rsplit rstrip "
    "setdefault split splitlines startswith strip update upper values zfill bit_length".split()
)
TWO_UNDERSCORES = {"__init__", "__eq__", "__repr__", "__str__", "__len__"}
BARRED_WORDS = re.compile(
    r"\b(type|typing|typing_extensions|enum|Enum|IntEnum|StrEnum|Flag|IntFlag|Generic|Protocol|ABC|ABCMeta|namedtuple"
    r"|NamedTuple|TypedDict|TYPE_CHECKING|abstractmethod)\b|dataclass|overload|contextmanager"
)
BARRED_NAMES = {"register", "mro", "elements", "open", "input", "version_info", "with_traceback", "add_note"}
STATEMENTS = (
    ast.Assign, ast.AugAssign, ast.If, ast.While, ast.For, ast.Return, ast.Break, ast.Continue, ast.Pass, ast.Raise,
    ast.Try, ast.Expr, ast.FunctionDef, ast.ClassDef, ast.ImportFrom,
)
EXPRESSIONS = (
    ast.Constant, ast.Name, ast.List, ast.Tuple, ast.Dict, ast.Set, ast.BinOp, ast.UnaryOp, ast.BoolOp, ast.Compare,
    ast.IfExp, ast.Call, ast.Attribute, ast.Subscript, ast.Slice, ast.ListComp, ast.JoinedStr, ast.FormattedValue,
    ast.Lambda,
)
WALKED_ONLY = {"zip", "enumerate", "reversed", "range"}


def faults(source):
    tree = ast.parse(source)
    found = line_faults(source)
    for check in (top_faults, statement_faults, expression_faults, name_faults, function_faults, class_faults):
        found += check(tree)
    return sorted(set(found))


def line_faults(source):
    found = []
    lines = source.split("\n")
    if len(lines) > 401:
        found.append(("L10", 401))
    for at, line in enumerate(lines, start=1):
        if len(line) > 120 or "\t" in line:
            found.append(("L10", at))
        if not all(" " <= sign <= "~" for sign in line):
            found.append(("L14", at))
        if BARRED_WORDS.search(line):
            found.append(("L17", at))
    return found


def is_docstring(node):
    return isinstance(node, ast.Expr) and isinstance(node.value, ast.Constant) and isinstance(node.value.value, str)


def top_faults(tree):
    found = []
    bound = {}
    for at, node in enumerate(tree.body):
        if isinstance(node, ast.ImportFrom):
            if node.level or not (node.module or "").startswith("mixposts."):
                found.append(("L2", node.lineno))
            names = [alias.name for alias in node.names]
            if "*" in names or any(alias.asname for alias in node.names):
                found.append(("L2", node.lineno))
        elif isinstance(node, (ast.FunctionDef, ast.ClassDef)):
            names = [node.name]
        elif isinstance(node, ast.Assign) and isinstance(node.targets[0], ast.Name):
            names = [node.targets[0].id]
        elif is_docstring(node) and at == 0:
            names = []
        else:
            names = []
            found.append(("L3", node.lineno))
        found += [("L15", node.lineno) for name in names if name in bound]
        bound.update(dict.fromkeys(names, True))
    return found


def statement_faults(tree):
    found = []
    for node in ast.walk(tree):
        if not isinstance(node, ast.stmt):
            continue
        if not isinstance(node, STATEMENTS) or getattr(node, "finalbody", None):
            found.append(("L6", node.lineno))
        if isinstance(node, (ast.For, ast.While)) and node.orelse:
            found.append(("L6", node.lineno))
        if isinstance(node, ast.Assign) and (len(node.targets) > 1 or isinstance(node.targets[0], ast.Tuple)):
            found.append(("L6", node.lineno))
        if isinstance(node, ast.Expr) and not isinstance(node.value, ast.Call) and node is not tree.body[0]:
            found.append(("L6", node.lineno))
        if isinstance(node, ast.ImportFrom) and node not in tree.body:
            found.append(("L2", node.lineno))
        if isinstance(node, ast.ClassDef) and node not in tree.body:
            found.append(("L15", node.lineno))
        if isinstance(node, ast.Raise) and not isinstance(node.exc, ast.Call):
            found.append(("L19", node.lineno))
        if isinstance(node, ast.Try):
            found += [("L19", node.lineno) for handler in node.handlers if barred_handler(handler)]
    return found


def barred_handler(handler):
    if handler.type is None:
        return True
    return any(isinstance(part, ast.Name) and part.id in ("Exception", "TypeError") for part in ast.walk(handler.type))


def expression_faults(tree):
    found = []
    walked = walked_calls(tree)
    for node in ast.walk(tree):
        if not isinstance(node, ast.expr):
            continue
        if not isinstance(node, EXPRESSIONS):
            found.append(("L7", node.lineno))
        if isinstance(node, ast.Constant) and isinstance(node.value, (float, bytes, complex)):
            found.append(("L7", node.lineno))
        if isinstance(node, ast.Constant) and isinstance(node.value, str) and "%" in node.value:
            found.append(("L27", node.lineno))
        if isinstance(node, ast.BinOp) and isinstance(node.op, (ast.Div, ast.MatMult)):
            found.append(("L7", node.lineno))
        if isinstance(node, ast.BinOp) and isinstance(node.op, ast.Pow) and not isinstance(node.right, ast.Constant):
            found.append(("L27", node.lineno))
        if isinstance(node, ast.ListComp) and (len(node.generators) > 1 or len(node.generators[0].ifs) > 1):
            found.append(("L7", node.lineno))
        if isinstance(node, ast.FormattedValue) and not isinstance(node.value, ast.Name):
            found.append(("L7", node.lineno))
        if isinstance(node, ast.Compare) and bad_is(node):
            found.append(("L20", node.lineno))
        if isinstance(node, ast.Call) and is_walked_only(node) and id(node) not in walked:
            found.append(("L23", node.lineno))
    return found


def bad_is(node):
    sides = [node.left] + node.comparators
    constants = [isinstance(side, ast.Constant) and side.value in (None, True, False) for side in sides]
    return any(isinstance(op, (ast.Is, ast.IsNot)) for op in node.ops) and not any(constants)


def is_walked_only(node):
    if isinstance(node.func, ast.Name):
        return node.func.id in WALKED_ONLY
    return isinstance(node.func, ast.Attribute) and node.func.attr in ("items", "keys", "values")


def walked_calls(tree):
    takers = ("list", "tuple", "dict", "sorted", "sum", "any", "all", "enumerate", "zip", "min", "max")
    walked = [node.iter for node in ast.walk(tree) if isinstance(node, (ast.For, ast.comprehension))]
    for node in ast.walk(tree):
        if isinstance(node, ast.Call) and node.args:
            if isinstance(node.func, ast.Name) and node.func.id in takers:
                walked.append(node.args[0])
            if isinstance(node.func, ast.Attribute) and node.func.attr == "join":
                walked.append(node.args[0])
    return {id(node) for node in walked}


def bound_names(tree):
    for node in ast.walk(tree):
        if isinstance(node, ast.Name) and isinstance(node.ctx, ast.Store):
            yield node.id, node.lineno
        if isinstance(node, ast.arg):
            yield node.arg, node.lineno
        if isinstance(node, (ast.FunctionDef, ast.ClassDef)):
            yield node.name, node.lineno
        if isinstance(node, ast.ExceptHandler) and node.name:
            yield node.name, node.lineno


def name_faults(tree):
    found = []
    methods = {part.name for node in tree.body if isinstance(node, ast.ClassDef) for part in node.body
               if isinstance(part, ast.FunctionDef)}
    imports = {alias.name for node in tree.body if isinstance(node, ast.ImportFrom) for alias in node.names}
    classes = {node.name for node in tree.body if isinstance(node, ast.ClassDef)}
    for name, line in bound_names(tree):
        if (name.startswith("_") or not name.isascii()) and name not in TWO_UNDERSCORES:
            found.append(("L12", line))
        if name in imports or (hasattr(builtins, name) and name not in methods):
            found.append(("L15", line))
    for node in ast.walk(tree):
        if isinstance(node, ast.Name) and isinstance(node.ctx, ast.Load):
            if hasattr(builtins, node.id) and node.id not in OWN_NAMES:
                found.append(("L8", node.lineno))
        if isinstance(node, ast.Name) and isinstance(node.ctx, ast.Store) and node.id in classes:
            found.append(("L15", node.lineno))
        if getattr(node, "attr", getattr(node, "id", None)) in BARRED_NAMES:
            found.append(("L17", node.lineno))
        if isinstance(node, ast.Attribute) and hasattr_of_values(node.attr) and node.attr not in methods | OWN_METHODS:
            found.append(("L25", node.lineno))
    return found


def hasattr_of_values(name):
    if name in TWO_UNDERSCORES or name in ("count", "index", "title", "add", "discard"):
        return False
    return name == "format" or any(hasattr(kind, name) for kind in (str, int, list, dict, set, bytes, tuple))


def function_faults(tree):
    found = []
    for node in ast.walk(tree):
        if not isinstance(node, (ast.FunctionDef, ast.Lambda)):
            continue
        taken = node.args
        if taken.vararg or taken.kwarg or taken.kwonlyargs or taken.posonlyargs:
            found.append(("L4", node.lineno))
        if not all(isinstance(value, ast.Constant) for value in taken.defaults):
            found.append(("L4", node.lineno))
        if isinstance(node, ast.FunctionDef):
            if node.decorator_list:
                found.append(("L4", node.lineno))
            if node.end_lineno - node.lineno + 1 > 40:
                found.append(("L10", node.lineno))
            if node.returns or any(arg.annotation for arg in taken.args):
                found.append(("L21", node.lineno))
    return found


def class_faults(tree):
    found = []
    for node in ast.walk(tree):
        if not isinstance(node, ast.ClassDef):
            continue
        if len(node.bases) > 1 or node.keywords or node.decorator_list:
            found.append(("L5", node.lineno))
        if not all(isinstance(part, (ast.FunctionDef, ast.Pass)) for part in node.body):
            found.append(("L5", node.lineno))
        names = [part.name for part in node.body if isinstance(part, ast.FunctionDef)]
        if len(names) != len(set(names)):
            found.append(("L18", node.lineno))
        if any(name.startswith("__") and name not in TWO_UNDERSCORES for name in names):
            found.append(("L5", node.lineno))
    return found
