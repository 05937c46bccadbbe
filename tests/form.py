"""Looks over source files for what ../shared/LANGUAGE.md rules out, as far as the written form shows it."""

import ast
import builtins
import re

STATEMENTS = (ast.Assign, ast.AugAssign, ast.AnnAssign, ast.If, ast.While, ast.For, ast.Return, ast.Break,
              ast.Continue, ast.Pass, ast.Raise, ast.Try, ast.Expr, ast.FunctionDef, ast.ClassDef,
              ast.ImportFrom)
EXPRESSIONS = (ast.Constant, ast.Name, ast.Attribute, ast.Subscript, ast.Slice, ast.List, ast.Tuple, ast.Dict,
               ast.Set, ast.BinOp, ast.UnaryOp, ast.BoolOp, ast.Compare, ast.IfExp, ast.Call, ast.ListComp,
               ast.JoinedStr, ast.FormattedValue, ast.Lambda)
BUILT_IN = set("""len range enumerate zip min max sum abs sorted reversed int str bool list tuple dict set
    frozenset isinstance ord repr any all divmod Exception ValueError TypeError KeyError IndexError LookupError
    ZeroDivisionError ArithmeticError OverflowError RuntimeError NotImplementedError AttributeError
    StopIteration""".split())
METHODS = set("""append clear copy count endswith extend find get index insert isalnum isalpha isdigit islower
    isspace isupper items join keys ljust lower lstrip partition pop remove replace reverse rfind rjust
    rpartition rsplit rstrip setdefault split splitlines startswith strip update upper values zfill
    bit_length""".split())
DUNDERS = set("__init__ __eq__ __repr__ __str__ __len__ __all__ __version__".split())
WORDS = re.compile(r"\b(type|typing|typing_extensions|enum|Enum|IntEnum|StrEnum|Flag|IntFlag|Generic|Protocol|ABC"
                   r"|ABCMeta|namedtuple|NamedTuple|TypedDict|TYPE_CHECKING|abstractmethod)\b"
                   r"|dataclass|overload|contextmanager")
UNUSED = set("""register mro elements open input version_info with_traceback add_note attrgetter breakpoint
    builtins compile copyright credits delattr dir eval exec exit gc getattr globals hasattr help id importlib
    license locals methodcaller os quit setattr super vars sys format format_map""".split())
KEPT_OUT = {"test", "tests", "testing", "site", "conftest", "sitecustomize", "usercustomize"} | set(dir(builtins))


def faults(package, files):
    """The faults of a package's files, told as a dict from file names to their text."""
    found = []
    trees = {name: ast.parse(text) for name, text in files.items()}
    methods = METHODS | {item.name for tree in trees.values() for kind in classes(tree)
                         for item in kind.body if isinstance(item, ast.FunctionDef)}
    own_classes = {kind.name for tree in trees.values() for kind in classes(tree)}
    for name, text in files.items():
        told = (file_faults(name, text) + top_faults(trees[name]) + node_faults(trees[name], methods)
                + name_faults(trees[name]) + import_faults(package, trees[name], trees)
                + place_faults(trees[name], own_classes))
        found += [f"{name}: {fault}" for fault in told]
    return found + ring_faults(package, trees) + field_faults(trees)


def classes(tree):
    return [node for node in ast.walk(tree) if isinstance(node, ast.ClassDef)]


def file_faults(name, text):
    found = []
    stem = name.removesuffix(".py")
    if not re.fullmatch(r"[a-z][a-z0-9_]*|__init__|__main__", stem) or stem in KEPT_OUT or stem.startswith("test_"):
        found.append("L14 the file's name")
    lines = text.split("\n")
    if len(lines) > 401:
        found.append("L10 more than 400 lines")
    for number, line in enumerate(lines, start=1):
        if len(line) > 120:
            found.append(f"L10 line {number} is too long")
        if re.search(r"[^ -~]", line):
            found.append(f"L14 line {number} has a sign that is out")
        if WORDS.search(line):
            found.append(f"L17 line {number} has a word that is out")
    return found


def top_faults(tree):
    found = []
    bound = []
    for node in tree.body:
        if isinstance(node, ast.Assign):
            bound += [target.id for target in node.targets if isinstance(target, ast.Name)]
            found += value_faults(node.value)
        elif isinstance(node, (ast.FunctionDef, ast.ClassDef)):
            bound.append(node.name)
        elif isinstance(node, ast.ImportFrom):
            bound += [item.asname or item.name for item in node.names]
        elif not (isinstance(node, ast.Expr) and isinstance(node.value, ast.Constant)):
            found.append(f"L3 line {node.lineno} does something at the top")
    found += [f"L15 {name} is bound twice" for name in set(bound) if bound.count(name) > 1]
    return found


def value_faults(value):
    """The faults of a value at a file's top."""
    try:
        plain = ast.literal_eval(value)
    except ValueError:
        return [f"L3 line {value.lineno} has no plain value"]
    inner = plain.values() if isinstance(plain, dict) else plain if isinstance(plain, list) else ()
    if any(isinstance(thing, (list, dict, set)) for thing in inner):
        return [f"L15 line {value.lineno} holds what can be changed"]
    return []


def node_faults(tree, methods):
    found = []
    for node in ast.walk(tree):
        for told in one_node(node, methods):
            found.append(f"{told} (line {getattr(node, 'lineno', 0)})")
    return found


def one_node(node, methods):
    if isinstance(node, ast.stmt) and not isinstance(node, STATEMENTS):
        return [f"L6 a statement {type(node).__name__}"]
    if isinstance(node, ast.expr) and not isinstance(node, EXPRESSIONS):
        return [f"L7 an expression {type(node).__name__}"]
    looks = {ast.FunctionDef: function_faults, ast.ClassDef: class_faults, ast.Constant: constant_faults,
             ast.BinOp: reckoning_faults, ast.Compare: comparison_faults, ast.ListComp: walk_faults,
             ast.ExceptHandler: handler_faults, ast.FormattedValue: shown_faults}
    if type(node) in looks:
        return looks[type(node)](node)
    if isinstance(node, (ast.For, ast.While)) and node.orelse:
        return ["L6 an else behind a loop"]
    if isinstance(node, ast.Try) and node.finalbody:
        return ["L6 a finally"]
    if isinstance(node, ast.Assign) and (len(node.targets) > 1 or isinstance(node.targets[0], (ast.Tuple, ast.List))):
        return ["L6 several targets"]
    if isinstance(node, ast.Call) and isinstance(node.func, ast.Attribute):
        return [] if node.func.attr in methods else [f"L25 a method {node.func.attr}"]
    return []


def function_faults(node):
    found = []
    given = node.args
    if given.vararg or given.kwarg or given.kwonlyargs or given.posonlyargs:
        found.append("L4 other than plain parameters")
    if node.decorator_list:
        found.append("L4 a decorator")
    if node.end_lineno - node.lineno + 1 > 40:
        found.append("L10 more than 40 lines in a function")
    if node.returns or any(given.annotation for given in given.args):
        found.append("L21 an annotation")
    if node.name == "__init__" and any(isinstance(inner, ast.Return) for inner in ast.walk(node)):
        found.append("L28 an __init__ that gives something back")
    return found


def class_faults(node):
    found = []
    if len(node.bases) > 1 or node.keywords or node.decorator_list:
        found.append("L5 more than one base, or a decorator")
    for item in node.body:
        remark = isinstance(item, ast.Expr) and isinstance(item.value, ast.Constant)
        if not remark and not isinstance(item, (ast.FunctionDef, ast.Pass)):
            found.append("L5 a value in the class body")
    return found


def constant_faults(node):
    if isinstance(node.value, (float, bytes, complex)):
        return ["L7 a float or bytes"]
    if isinstance(node.value, str) and "%" in node.value:
        return ["L27 a sign that is out within a text"]
    return []


def reckoning_faults(node):
    if isinstance(node.op, (ast.Div, ast.MatMult)):
        return ["L7 a division that is out"]
    if isinstance(node.op, ast.Pow):
        power = node.right
        if not (isinstance(power, ast.Constant) and isinstance(power.value, int) and 0 <= power.value <= 64):
            return ["L27 an exponent that is not written"]
    return []


def comparison_faults(node):
    sides = [node.left] + node.comparators
    for place, sign in enumerate(node.ops):
        if isinstance(sign, (ast.Is, ast.IsNot)):
            pair = sides[place:place + 2]
            if not any(isinstance(side, ast.Constant) and side.value in (None, True, False) for side in pair):
                return ["L20 an is"]
    return []


def walk_faults(node):
    if len(node.generators) > 1 or len(node.generators[0].ifs) > 1:
        return ["L7 a comprehension of several steps"]
    return []


def shown_faults(node):
    if not isinstance(node.value, ast.Name) or node.format_spec or node.conversion not in (-1, ord("r")):
        return ["L7 more than a name in an f-string's braces"]
    return []


def handler_faults(node):
    if node.type is None or any(isinstance(kind, ast.Name) and kind.id in ("Exception", "TypeError")
                                for kind in ast.walk(node.type)):
        return ["L19 an except that is out"]
    return []


def name_faults(tree):
    found = []
    own = {node.id for node in ast.walk(tree) if isinstance(node, ast.Name) and isinstance(node.ctx, ast.Store)}
    own |= {node.arg for node in ast.walk(tree) if isinstance(node, ast.arg)}
    own |= {node.name for node in ast.walk(tree) if isinstance(node, ast.ExceptHandler) and node.name}
    stored = own | {node.attr for node in ast.walk(tree) if isinstance(node, ast.Attribute)}
    stored |= {node.name for node in ast.walk(tree) if isinstance(node, (ast.FunctionDef, ast.ClassDef))}
    found += [f"L12 the name {name}" for name in stored
              if name not in DUNDERS and not re.fullmatch(r"[A-Za-z][A-Za-z0-9_]*", name)]
    found += [f"L17 the name {name}" for name in stored if name in UNUSED]
    above = {item.asname or item.name for node in tree.body if isinstance(node, ast.ImportFrom)
             for item in node.names}
    above |= {kind.name for kind in classes(tree)}
    found += [f"L15 the name {name} has another meaning" for name in own
              if name in above or (name in dir(builtins) and name not in DUNDERS)]
    for node in ast.walk(tree):
        if isinstance(node, ast.Name) and isinstance(node.ctx, ast.Load):
            if node.id in dir(builtins) and node.id not in BUILT_IN:
                found.append(f"L8 the built-in name {node.id}")
    return found


def import_faults(package, tree, trees):
    found = []
    for node in ast.walk(tree):
        if isinstance(node, ast.ImportFrom) and node.module != "__future__":
            start, _, rest = (node.module or "").partition(".")
            drawn = trees.get(f"{rest}.py")
            if node not in tree.body or node.level or start != package or drawn is None:
                found.append(f"L2 an import (line {node.lineno})")
                continue
            found += [f"L16 {item.name} is not from the file that defines it" for item in node.names
                      if item.name not in defined(drawn)]
    return found


def defined(tree):
    names = [node.name for node in tree.body if isinstance(node, (ast.FunctionDef, ast.ClassDef))]
    return names + [target.id for node in tree.body if isinstance(node, ast.Assign) for target in node.targets]


def ring_faults(package, trees):
    drawn = {name: {node.module.partition(".")[2] + ".py" for node in tree.body
                    if isinstance(node, ast.ImportFrom) and node.module and node.module.startswith(package + ".")}
             for name, tree in trees.items()}
    for _ in trees:
        for name in drawn:
            drawn[name] |= {far for near in drawn[name] for far in drawn.get(near, ())}
    return [f"{name}: L16 draws from itself" for name in drawn if name in drawn[name]]


WALKED = {"zip", "enumerate", "reversed", "range"}
WALKED_METHODS = {"items", "keys", "values"}
WALKERS = {"list", "tuple", "dict", "sorted", "sum", "any", "all", "enumerate", "zip"}
KEYWORDS = {"sorted": {"key", "reverse"}, "min": {"key", "default"}, "max": {"key", "default"}, "sum": {"start"},
            "enumerate": {"start"}, "zip": {"strict"}}
OF_PYTHON = {name for kind in (str, int, list, dict, set, frozenset, tuple, bytes, bytearray) for name in dir(kind)}
VALUES = set("count index title find get join lower upper split strip copy add".split())


def called(node):
    """The name that a call calls, or a text without signs."""
    if not isinstance(node, ast.Call):
        return ""
    return node.func.id if isinstance(node.func, ast.Name) else ""


def place_faults(tree, own_classes):
    """The faults of things that may stand only at some places."""
    above = {}
    for node in ast.walk(tree):
        for inner in ast.iter_child_nodes(node):
            above[inner] = node
    found = []
    for node in ast.walk(tree):
        line = getattr(node, "lineno", 0)
        if is_walked(node) and not walked_at_once(node, above):
            found.append(f"L23 kept and not walked (line {line})")
        if (called(node) in ("set", "frozenset") or isinstance(node, ast.Set)) and not asked_at_once(node, above):
            found.append(f"L24 a set that is kept or walked (line {line})")
        if isinstance(node, ast.Name) and isinstance(node.ctx, ast.Load):
            if node.id in own_classes and not class_used(node, above):
                found.append(f"L18 the class {node.id} is handed on (line {line})")
            if node.id in BUILT_IN and not built_in_used(node, above):
                found.append(f"L22 {node.id} is handed on (line {line})")
        if called(node) in BUILT_IN:
            wrong = {word.arg for word in node.keywords} - KEYWORDS.get(called(node), set())
            found += [f"L22 the keyword {word} (line {line})" for word in wrong]
        if isinstance(node, ast.Attribute) and node.attr in METHODS - VALUES and isinstance(node.ctx, ast.Load):
            if not (isinstance(above[node], ast.Call) and above[node].func is node):
                found.append(f"L25 the method {node.attr} is handed on (line {line})")
    return found


def is_walked(node):
    if called(node) in WALKED:
        return True
    return isinstance(node, ast.Call) and isinstance(node.func, ast.Attribute) and node.func.attr in WALKED_METHODS


def walked_at_once(node, above):
    near = above[node]
    if isinstance(near, (ast.For, ast.comprehension)):
        return near.iter is node
    if called(near) in ("min", "max"):
        return near.args == [node]
    if called(near) == "zip":
        return True
    if isinstance(near, ast.Call) and isinstance(near.func, ast.Attribute) and near.func.attr == "join":
        return isinstance(near.func.value, ast.Constant)
    return called(near) in WALKERS and near.args[:1] == [node]


def asked_at_once(node, above):
    near = above[node]
    if isinstance(near, ast.BinOp):
        return asked_at_once(near, above)
    if isinstance(near, ast.Compare):
        return True
    return called(near) in ("sorted", "len") and near.args == [node] and not near.keywords


def class_used(node, above):
    near = above[node]
    if isinstance(near, ast.Tuple):
        return isinstance(above[near], ast.ExceptHandler) or called(above[near]) == "isinstance"
    if isinstance(near, ast.Attribute):
        return near.attr == "__init__"
    if isinstance(near, ast.Call):
        return near.func is node or called(near) == "isinstance"
    return isinstance(near, (ast.ClassDef, ast.ExceptHandler, ast.Raise))


def built_in_used(node, above):
    near = above[node]
    if isinstance(near, ast.Tuple):
        near = above[near]
    if isinstance(near, ast.Call):
        return near.func is node or called(near) == "isinstance"
    return isinstance(near, (ast.ClassDef, ast.ExceptHandler, ast.Raise, ast.keyword))


def field_faults(trees):
    """The faults of the names of methods and of the values of objects, in the whole package."""
    found = []
    methods = {item.name for tree in trees.values() for kind in classes(tree) for item in kind.body
               if isinstance(item, ast.FunctionDef)}
    values = {node.attr for tree in trees.values() for node in ast.walk(tree)
              if isinstance(node, ast.Attribute) and isinstance(node.ctx, ast.Store)}
    found += [f"package: L18 {name} is a method and a value" for name in methods & values]
    found += [f"package: L26 the method {name}" for name in methods & OF_PYTHON - METHODS - DUNDERS - {"add", "discard"}]
    found += [f"package: L26 the value {name}" for name in values & (OF_PYTHON | {"args"}) - VALUES]
    for tree in trees.values():
        for kind in classes(tree):
            names = [item.name for item in kind.body if isinstance(item, ast.FunctionDef)]
            found += [f"package: L18 the method {name} stands twice" for name in set(names) if names.count(name) > 1]
    return found
