"""What can be seen of the language's rules in a file's source: a row for each breach."""

import ast
import builtins
import re

OWN_NAMES = """len range enumerate zip min max sum abs sorted reversed int str bool list tuple dict set frozenset
isinstance ord repr any all divmod Exception ValueError TypeError KeyError IndexError LookupError ZeroDivisionError
ArithmeticError OverflowError RuntimeError NotImplementedError AttributeError StopIteration""".split()
OWN_METHODS = """append clear copy count endswith extend find get index insert isalnum isalpha isdigit islower isspace
isupper items join keys ljust lower lstrip partition pop remove replace reverse rfind rjust rpartition rsplit rstrip
setdefault split splitlines startswith strip update upper values zfill bit_length""".split()
DUNDERS = "__init__ __eq__ __repr__ __str__ __len__".split()
OUT_NAMES = """register mro elements open input version_info with_traceback add_note attrgetter breakpoint builtins
compile copyright credits delattr dir eval exec exit gc getattr globals hasattr help id importlib license locals
methodcaller os quit setattr super type vars sys format format_map chr print""".split()
OUT_WORDS = re.compile(
    r"\b(type|typing|typing_extensions|enum|Enum|IntEnum|StrEnum|Flag|IntFlag|Generic|Protocol|ABC|ABCMeta|namedtuple"
    r"|NamedTuple|TypedDict|TYPE_CHECKING|abstractmethod)\b|dataclass|overload|contextmanager"
)
WALKED = ("zip", "enumerate", "reversed", "range")
WALKED_METHODS = ("items", "keys", "values")
WALKERS = ("list", "tuple", "dict", "sorted", "sum", "any", "all", "enumerate", "zip", "min", "max")
CHANGES = ("append", "clear", "extend", "insert", "pop", "remove", "reverse", "setdefault", "update", "add", "discard")
KEYWORDS = {"sorted": ("key", "reverse"), "min": ("key", "default"), "max": ("key", "default"),
            "sum": ("start",), "enumerate": ("start",), "zip": ("strict",)}
STATEMENTS = (ast.Assign, ast.AugAssign, ast.If, ast.While, ast.For, ast.Return, ast.Break, ast.Continue, ast.Pass,
              ast.Raise, ast.Try, ast.Expr, ast.FunctionDef, ast.ClassDef, ast.ImportFrom)
EXPRESSIONS = (ast.Constant, ast.List, ast.Tuple, ast.Dict, ast.Set, ast.BinOp, ast.UnaryOp, ast.BoolOp, ast.Compare,
               ast.IfExp, ast.Call, ast.Attribute, ast.Subscript, ast.Slice, ast.ListComp, ast.JoinedStr,
               ast.FormattedValue, ast.Name, ast.Lambda)


def breaches(package, name, source):
    """Of the package's name, a file's name and its source: a sorted list of texts."""
    found = rows_of_text(name, source)
    tree = ast.parse(source)
    parents = {child: node for node in ast.walk(tree) for child in ast.iter_child_nodes(node)}
    found += rows_of_top(package, tree)
    for node in ast.walk(tree):
        for check in CHECKS:
            for words in check(node, parents):
                found.append(f"{name}:{getattr(node, 'lineno', 0)}: {words}")
    return sorted(found)


def rows_of_text(name, source):
    found = []
    if not re.fullmatch(r"[a-z0-9_]+\.py", name):
        found.append(f"{name}: L1, L14: the file's name")
    rows = source.split("\n")
    if len(rows) > 401:
        found.append(f"{name}: L10: more than 400 lines")
    for number, row in enumerate(rows, 1):
        if len(row) > 120:
            found.append(f"{name}:{number}: L10: a line of more than 120 signs")
        if any(not " " <= sign <= "~" for sign in row):
            found.append(f"{name}:{number}: L14: a sign")
        if OUT_WORDS.search(row):
            found.append(f"{name}:{number}: L17: a word")
    return found


def rows_of_top(package, tree):
    found = []
    bound = []
    kept = [node.name for node in tree.body if isinstance(node, ast.ClassDef)]
    kept += [part.name for node in tree.body if isinstance(node, ast.ImportFrom) for part in node.names]
    for place, node in enumerate(tree.body):
        if place == 0 and isinstance(node, ast.Expr) and isinstance(node.value, ast.Constant):
            continue
        if isinstance(node, ast.ImportFrom):
            if node.level or not node.module.startswith(package + ".") or any(x.asname for x in node.names):
                found.append(f"{node.lineno}: L2: an import")
            bound += [part.name for part in node.names]
        elif isinstance(node, (ast.FunctionDef, ast.ClassDef)):
            bound.append(node.name)
        elif isinstance(node, ast.Assign) and isinstance(node.targets[0], ast.Name) and is_plain(node.value):
            bound.append(node.targets[0].id)
        else:
            found.append(f"{node.lineno}: L3: at the top of a file")
    for name in set(bound):
        if bound.count(name) > 1:
            found.append(f"L15: {name} is bound twice")
    locals_of = [node.arg for node in ast.walk(tree) if isinstance(node, ast.arg)]
    locals_of += [node.id for node in ast.walk(tree) if isinstance(node, ast.Name) and is_stored_below(node, tree)]
    for name in locals_of:
        if name in kept or hasattr(builtins, name):
            found.append(f"L15: the local {name}")
    return found


def is_stored_below(node, tree):
    at_top = any(isinstance(row, ast.Assign) and node in row.targets for row in tree.body)
    return isinstance(node.ctx, ast.Store) and not at_top


def is_plain(value):
    try:
        ast.literal_eval(value)
    except ValueError:
        return False
    return not (isinstance(value, (ast.List, ast.Dict)) and any(
        isinstance(node, (ast.List, ast.Dict)) for node in ast.walk(value) if node is not value))


def check_kinds(node, parents):
    if isinstance(node, ast.stmt) and not isinstance(node, STATEMENTS):
        yield f"L6: {node.__class__.__name__}"
    if isinstance(node, ast.expr) and not isinstance(node, EXPRESSIONS):
        yield f"L7: {node.__class__.__name__}"
    if isinstance(node, ast.ImportFrom) and not isinstance(parents[node], ast.Module):
        yield "L2: an import below the top"
    if isinstance(node, ast.ClassDef) and not isinstance(parents[node], ast.Module):
        yield "L15: a class below the top"
    if isinstance(node, (ast.For, ast.While)) and node.orelse:
        yield "L6: else behind a loop"
    if isinstance(node, ast.Assign) and (len(node.targets) != 1 or isinstance(node.targets[0], (ast.Tuple, ast.List))):
        yield "L6: one target in an assignment"
    if isinstance(node, ast.Try) and node.finalbody:
        yield "L6: finally"
    if isinstance(node, ast.Expr) and not isinstance(node.value, ast.Call):
        if not (isinstance(parents[node], ast.Module) and node is parents[node].body[0]):
            yield "L6: a value by itself"


def check_values(node, parents):
    if isinstance(node, ast.Constant) and isinstance(node.value, (float, bytes, complex)):
        yield "L7: a float or bytes"
    if isinstance(node, ast.Constant) and isinstance(node.value, str) and "%" in node.value:
        yield "L27: a sign in a text"
    if isinstance(node, ast.BinOp) and isinstance(node.op, (ast.Div, ast.MatMult)):
        yield "L7: /"
    if isinstance(node, ast.BinOp) and isinstance(node.op, ast.Pow) and not isinstance(node.right, ast.Constant):
        yield "L27: **"
    if isinstance(node, ast.ListComp) and (len(node.generators) > 1 or len(node.generators[0].ifs) > 1):
        yield "L7: a comprehension"
    if isinstance(node, ast.FormattedValue):
        if not isinstance(node.value, ast.Name) or node.conversion not in (-1, ord("r")) or node.format_spec:
            yield "L7: an f-string"
    if isinstance(node, ast.Compare):
        for op, side in zip(node.ops, node.comparators):
            if isinstance(op, (ast.Is, ast.IsNot)):
                if not (isinstance(side, ast.Constant) and side.value in (None, True, False)):
                    yield "L20: is"


def check_defs(node, parents):
    if isinstance(node, ast.FunctionDef):
        if node.end_lineno - node.lineno + 1 > 40:
            yield "L10: a function of more than 40 lines"
        if node.decorator_list or node.args.vararg or node.args.kwarg or node.args.kwonlyargs or node.args.posonlyargs:
            yield "L4: a function"
        if node.returns or any(part.annotation for part in node.args.args):
            yield "L21: an annotation"
    if isinstance(node, ast.ClassDef):
        names = [row.name for row in node.body if isinstance(row, ast.FunctionDef)]
        others = [row for row in node.body if not isinstance(row, (ast.FunctionDef, ast.Pass))]
        if node.decorator_list or node.keywords or len(node.bases) > 1 or others:
            yield "L5: a class"
        if len(names) != len(set(names)):
            yield "L18: a method stands twice"


def names_in(node):
    if isinstance(node, (ast.FunctionDef, ast.ClassDef)):
        return [node.name]
    if isinstance(node, ast.Name):
        return [node.id]
    if isinstance(node, ast.arg):
        return [node.arg]
    return [node.attr] if isinstance(node, ast.Attribute) else []


def check_names(node, parents):
    for name in names_in(node):
        if not name.isascii() or (name.startswith("_") and name not in DUNDERS):
            yield f"L12: {name}"
        if name in OUT_NAMES:
            yield f"L17: {name}"
        if isinstance(node, ast.Name) and hasattr(builtins, name) and name not in OWN_NAMES:
            yield f"L8: {name}"


def check_calls(node, parents):
    if not isinstance(node, ast.Call):
        return
    if any(isinstance(part, ast.Starred) for part in node.args) or any(part.arg is None for part in node.keywords):
        yield "L7: a star"
    called = node.func.id if isinstance(node.func, ast.Name) else None
    method = node.func.attr if isinstance(node.func, ast.Attribute) else None
    if called in OWN_NAMES or method in OWN_METHODS:
        for part in node.keywords:
            if part.arg not in KEYWORDS.get(called, ()):
                yield f"L22: the keyword {part.arg}"
    if called in WALKED or method in WALKED_METHODS:
        above = parents[node]
        walker = isinstance(above, ast.Call) and isinstance(above.func, ast.Name) and above.func.id in WALKERS
        if not (isinstance(above, (ast.For, ast.comprehension)) or walker):
            yield f"L23: {called or method} is kept"
    if called in ("set", "frozenset"):
        above = parents[node]
        beside = isinstance(above, (ast.Compare, ast.BinOp))
        within = isinstance(above, ast.Call) and isinstance(above.func, ast.Name) and above.func.id in ("sorted", "len")
        if not (beside or within):
            yield "L24: a set is kept"


def check_errors(node, parents):
    if isinstance(node, ast.ExceptHandler):
        kinds = node.type.elts if isinstance(node.type, ast.Tuple) else [node.type]
        for kind in kinds:
            if not isinstance(kind, ast.Name) or kind.id in ("Exception", "TypeError"):
                yield "L19: an except"


def walked_names(walked):
    """The names that a loop walks, itself or through enumerate, zip, reversed, items."""
    if isinstance(walked, ast.Name):
        return [walked.id]
    if not isinstance(walked, ast.Call):
        return []
    if isinstance(walked.func, ast.Attribute) and walked.func.attr in WALKED_METHODS:
        return walked_names(walked.func.value)
    if isinstance(walked.func, ast.Name) and walked.func.id in WALKED:
        return [name for part in walked.args for name in walked_names(part)]
    return []


def changed_name(node):
    if isinstance(node, ast.Call) and isinstance(node.func, ast.Attribute) and node.func.attr in CHANGES:
        return getattr(node.func.value, "id", None)
    if isinstance(node, ast.Subscript) and isinstance(node.ctx, ast.Store):
        return getattr(node.value, "id", None)
    if isinstance(node, ast.Name) and isinstance(node.ctx, ast.Store):
        return node.id
    return None


def check_loops(node, parents):
    if isinstance(node, ast.For):
        names = walked_names(node.iter)
        for part in [part for row in node.body for part in ast.walk(row)]:
            if changed_name(part) in names:
                yield f"L23: {changed_name(part)} is changed where it is walked"


def check_two_forms(node, parents):
    if isinstance(node, ast.Set) and not isinstance(parents[node], ast.Compare):
        numbers = [part for part in node.elts if isinstance(part, ast.Constant) and isinstance(part.value, int)]
        if len(numbers) > 2:
            yield "L13: a set of numbers"
    if isinstance(node, ast.Lambda):
        others = [part for part in parents if isinstance(part, ast.Lambda) and part.lineno == node.lineno]
        if any(part is not node and ast.dump(part.args) == ast.dump(node.args) for part in others):
            yield "L13: two lambdas on one line"


CHECKS = (check_kinds, check_values, check_defs, check_names, check_calls, check_errors, check_loops, check_two_forms)
