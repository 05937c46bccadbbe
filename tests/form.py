"""Looks over source files for what ../shared/LANGUAGE.md rules out, as far as the written form shows it."""

import ast
import builtins
import re

STATEMENTS = (ast.Assign, ast.AugAssign, ast.AnnAssign, ast.If, ast.While, ast.For, ast.Return, ast.Break,
              ast.Continue, ast.Pass, ast.Raise, ast.Try, ast.Expr, ast.FunctionDef, ast.ClassDef,
              ast.ImportFrom)
EXPRESSIONS = (ast.Constant, ast.Name, ast.Attribute, ast.Subscript, ast.Slice, ast.List, ast.Tuple, ast.Dict,
               ast.Set, ast.BinOp, ast.UnaryOp, ast.BoolOp, ast.Compare, ast.IfExp, ast.Call, ast.ListComp,
               ast.JoinedStr, ast.FormattedValue, ast.Lambda)
BUILT_IN = set("""len range enumerate zip min max sum abs sorted reversed int str bool list tuple dict set
    frozenset isinstance ord repr any all divmod Exception ValueError TypeError KeyError IndexError LookupError
    ZeroDivisionError ArithmeticError OverflowError RuntimeError NotImplementedError AttributeError
    StopIteration""".split())
METHODS = set("""append clear copy count endswith extend find get index insert isalnum isalpha isdigit islower
    isspace isupper items join keys ljust lower lstrip partition pop remove replace reverse rfind rjust
    rpartition rsplit rstrip setdefault split splitlines startswith strip update upper values zfill
    bit_length""".split())
DUNDERS = set("__init__ __eq__ __repr__ __str__ __len__ __all__ __version__".split())
WORDS = re.compile(r"\b(type|typing|typing_extensions|enum|Enum|IntEnum|StrEnum|Flag|IntFlag|Generic|Protocol|ABC"
                   r"|ABCMeta|namedtuple|NamedTuple|TypedDict|TYPE_CHECKING|abstractmethod)\b"
                   r"|dataclass|overload|contextmanager")
UNUSED = set("""register mro elements open input version_info with_traceback add_note attrgetter breakpoint
    builtins compile copyright credits delattr dir eval exec exit gc getattr globals hasattr help id importlib
    license locals methodcaller os quit setattr super vars sys format format_map""".split())
KEPT_OUT = {"test", "tests", "testing", "site", "conftest", "sitecustomize", "usercustomize"} | set(dir(builtins))


def faults(package, files):
    """The faults of a package's files, told as a dict from file names to their text."""
    found = []
    trees = {name: ast.parse(text) for name, text in files.items()}
    methods = METHODS | {item.name for tree in trees.values() for kind in classes(tree)
                         for item in kind.body if isinstance(item, ast.FunctionDef)}
    for name, text in files.items():
        told = (file_faults(name, text) + top_faults(trees[name]) + node_faults(trees[name], methods)
                + name_faults(trees[name]) + import_faults(package, trees[name], trees))
        found += [f"{name}: {fault}" for fault in told]
    return found + ring_faults(package, trees)


def classes(tree):
    return [node for node in ast.walk(tree) if isinstance(node, ast.ClassDef)]


def file_faults(name, text):
    found = []
    stem = name.removesuffix(".py")
    if not re.fullmatch(r"[a-z][a-z0-9_]*|__init__|__main__", stem) or stem in KEPT_OUT or stem.startswith("test_"):
        found.append("L14 the file's name")
    lines = text.split("\n")
    if len(lines) > 401:
        found.append("L10 more than 400 lines")
    for number, line in enumerate(lines, start=1):
        if len(line) > 120:
            found.append(f"L10 line {number} is too long")
        if re.search(r"[^ -~]", line):
            found.append(f"L14 line {number} has a sign that is out")
        if WORDS.search(line):
            found.append(f"L17 line {number} has a word that is out")
    return found


def top_faults(tree):
    found = []
    bound = []
    for node in tree.body:
        if isinstance(node, ast.Assign):
            bound += [target.id for target in node.targets if isinstance(target, ast.Name)]
        elif isinstance(node, (ast.FunctionDef, ast.ClassDef)):
            bound.append(node.name)
        elif isinstance(node, ast.ImportFrom):
            bound += [item.asname or item.name for item in node.names]
        elif not (isinstance(node, ast.Expr) and isinstance(node.value, ast.Constant)):
            found.append(f"L3 line {node.lineno} does something at the top")
    found += [f"L15 {name} is bound twice" for name in set(bound) if bound.count(name) > 1]
    return found


def node_faults(tree, methods):
    found = []
    for node in ast.walk(tree):
        for told in one_node(node, methods):
            found.append(f"{told} (line {getattr(node, 'lineno', 0)})")
    return found


def one_node(node, methods):
    if isinstance(node, ast.stmt) and not isinstance(node, STATEMENTS):
        return [f"L6 a statement {type(node).__name__}"]
    if isinstance(node, ast.expr) and not isinstance(node, EXPRESSIONS):
        return [f"L7 an expression {type(node).__name__}"]
    looks = {ast.FunctionDef: function_faults, ast.ClassDef: class_faults, ast.Constant: constant_faults,
             ast.BinOp: reckoning_faults, ast.Compare: comparison_faults, ast.ListComp: walk_faults,
             ast.ExceptHandler: handler_faults}
    if type(node) in looks:
        return looks[type(node)](node)
    if isinstance(node, (ast.For, ast.While)) and node.orelse:
        return ["L6 an else behind a loop"]
    if isinstance(node, ast.Try) and node.finalbody:
        return ["L6 a finally"]
    if isinstance(node, ast.Assign) and (len(node.targets) > 1 or isinstance(node.targets[0], (ast.Tuple, ast.List))):
        return ["L6 several targets"]
    if isinstance(node, ast.Call) and isinstance(node.func, ast.Attribute):
        return [] if node.func.attr in methods else [f"L25 a method {node.func.attr}"]
    return []


def function_faults(node):
    found = []
    given = node.args
    if given.vararg or given.kwarg or given.kwonlyargs or given.posonlyargs:
        found.append("L4 other than plain parameters")
    if node.decorator_list:
        found.append("L4 a decorator")
    if node.end_lineno - node.lineno + 1 > 40:
        found.append("L10 more than 40 lines in a function")
    return found


def class_faults(node):
    found = []
    if len(node.bases) > 1 or node.keywords or node.decorator_list:
        found.append("L5 more than one base, or a decorator")
    for item in node.body:
        remark = isinstance(item, ast.Expr) and isinstance(item.value, ast.Constant)
        if not remark and not isinstance(item, (ast.FunctionDef, ast.Pass)):
            found.append("L5 a value in the class body")
    return found


def constant_faults(node):
    if isinstance(node.value, (float, bytes, complex)):
        return ["L7 a float or bytes"]
    if isinstance(node.value, str) and "%" in node.value:
        return ["L27 a sign that is out within a text"]
    return []


def reckoning_faults(node):
    if isinstance(node.op, (ast.Div, ast.MatMult)):
        return ["L7 a division that is out"]
    if isinstance(node.op, ast.Pow):
        power = node.right
        if not (isinstance(power, ast.Constant) and isinstance(power.value, int) and 0 <= power.value <= 64):
            return ["L27 an exponent that is not written"]
    return []


def comparison_faults(node):
    sides = [node.left] + node.comparators
    for place, sign in enumerate(node.ops):
        if isinstance(sign, (ast.Is, ast.IsNot)):
            pair = sides[place:place + 2]
            if not any(isinstance(side, ast.Constant) and side.value in (None, True, False) for side in pair):
                return ["L20 an is"]
    return []


def walk_faults(node):
    if len(node.generators) > 1 or len(node.generators[0].ifs) > 1:
        return ["L7 a comprehension of several steps"]
    return []


def handler_faults(node):
    if node.type is None or any(isinstance(kind, ast.Name) and kind.id in ("Exception", "TypeError")
                                for kind in ast.walk(node.type)):
        return ["L19 an except that is out"]
    return []


def name_faults(tree):
    found = []
    own = {node.id for node in ast.walk(tree) if isinstance(node, ast.Name) and isinstance(node.ctx, ast.Store)}
    own |= {node.arg for node in ast.walk(tree) if isinstance(node, ast.arg)}
    own |= {node.name for node in ast.walk(tree) if isinstance(node, ast.ExceptHandler) and node.name}
    stored = own | {node.attr for node in ast.walk(tree) if isinstance(node, ast.Attribute)}
    stored |= {node.name for node in ast.walk(tree) if isinstance(node, (ast.FunctionDef, ast.ClassDef))}
    found += [f"L12 the name {name}" for name in stored
              if name not in DUNDERS and not re.fullmatch(r"[A-Za-z][A-Za-z0-9_]*", name)]
    found += [f"L17 the name {name}" for name in stored if name in UNUSED]
    above = {item.asname or item.name for node in tree.body if isinstance(node, ast.ImportFrom)
             for item in node.names}
    above |= {kind.name for kind in classes(tree)}
    found += [f"L15 the name {name} has another meaning" for name in own
              if name in above or (name in dir(builtins) and name not in DUNDERS)]
    for node in ast.walk(tree):
        if isinstance(node, ast.Name) and isinstance(node.ctx, ast.Load):
            if node.id in dir(builtins) and node.id not in BUILT_IN:
                found.append(f"L8 the built-in name {node.id}")
    return found


def import_faults(package, tree, trees):
    found = []
    for node in ast.walk(tree):
        if isinstance(node, ast.ImportFrom) and node.module != "__future__":
            start, _, rest = (node.module or "").partition(".")
            drawn = trees.get(f"{rest}.py")
            if node not in tree.body or node.level or start != package or drawn is None:
                found.append(f"L2 an import (line {node.lineno})")
                continue
            found += [f"L16 {item.name} is not from the file that defines it" for item in node.names
                      if item.name not in defined(drawn)]
    return found


def defined(tree):
    names = [node.name for node in tree.body if isinstance(node, (ast.FunctionDef, ast.ClassDef))]
    return names + [target.id for node in tree.body if isinstance(node, ast.Assign) for target in node.targets]


def ring_faults(package, trees):
    drawn = {name: {node.module.partition(".")[2] + ".py" for node in tree.body
                    if isinstance(node, ast.ImportFrom) and node.module and node.module.startswith(package + ".")}
             for name, tree in trees.items()}
    for _ in trees:
        for name in drawn:
            drawn[name] |= {far for near in drawn[name] for far in drawn.get(near, ())}
    return [f"{name}: L16 draws from itself" for name in drawn if name in drawn[name]]
