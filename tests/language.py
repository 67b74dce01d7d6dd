"""Looks at sources for what ../shared/LANGUAGE.md bars, as far as a small look can see it."""

import ast
import builtins
import io
import re
import tokenize

PACKAGE = "webintoweb"

ERRORS = {
    "Exception", "ValueError", "TypeError", "KeyError", "IndexError", "LookupError", "ZeroDivisionError",
    "ArithmeticError", "OverflowError", "RuntimeError", "NotImplementedError", "AttributeError", "StopIteration",
}
CALLED = {
    "len", "range", "enumerate", "zip", "min", "max", "sum", "abs", "sorted", "reversed", "int", "str", "bool",
    "bytes", "list", "tuple", "dict", "set", "frozenset", "isinstance", "ord", "repr", "any", "all", "divmod",
}
KEYWORDS = {
    "sorted": {"key", "reverse"}, "min": {"key", "default"}, "max": {"key", "default"},
    "sum": {"start"}, "enumerate": {"start"}, "zip": {"strict"},
}
METHODS = set("""
    append clear copy count endswith extend find get index insert isalnum isalpha isdigit islower isspace isupper
    items join keys ljust lower lstrip partition pop remove replace reverse rfind rjust rpartition rsplit rstrip
    setdefault split splitlines startswith strip update upper values zfill bit_length add discard sort
""".split())
DOUBLE = {"__init__", "__eq__", "__repr__", "__str__", "__len__"}
WORDS = re.compile(r"\b(type|typing|typing_extensions|enum|Enum|IntEnum|StrEnum|Flag|IntFlag|Generic|Protocol|ABC"
                   r"|ABCMeta|namedtuple|NamedTuple|TypedDict|TYPE_CHECKING|abstractmethod)\b"
                   r"|dataclass|overload|contextmanager")
NAMES = set("""
    register mro elements open input version_info with_traceback add_note attrgetter breakpoint builtins compile
    copyright credits delattr dir eval exec exit gc getattr globals hasattr help id importlib license locals
    methodcaller os quit setattr super type vars sys
""".split())
BARRED_ATTRIBUTES = set("""
    items keys values pop update append clear extend insert remove reverse setdefault sort args encode decode hex
    fromhex format as_integer_ratio bit_count conjugate from_bytes is_integer to_bytes
""".split())
CHANGING = {"append", "clear", "extend", "insert", "pop", "remove", "reverse", "setdefault", "update", "sort"}
PLAIN_NAME = re.compile(r"[A-Za-z][A-Za-z0-9_]*")
FILE_NAME = re.compile(r"[a-z][a-z0-9_]*\.py|__init__\.py")
BARRED_FILE = re.compile(r"law_.*|tests?|testing|test_.*|site|conftest|sitecustomize|usercustomize")
AT_ONCE = {"list", "tuple", "dict", "sorted", "sum", "any", "all", "enumerate", "zip", "bytes", "min", "max"}
OVER_GENERATOR = {"list", "tuple", "dict", "sorted", "sum", "min", "max", "any", "all"}
FUNCTIONS = (ast.FunctionDef, ast.AsyncFunctionDef, ast.Lambda)
LOOPS = (ast.For, ast.comprehension)


def findings(files):
    """All that is amiss in files, a dict of sources by file names, as (file, line, rule)."""
    trees = {name: ast.parse(source) for name, source in files.items()}
    found = []
    for name, source in files.items():
        own = own_methods(trees)
        for look in (file_amiss, text_amiss, tokens_amiss):
            found.extend((name, line, rule) for line, rule in look(name, source))
        for look in (module_amiss, names_amiss, imports_amiss):
            found.extend((name, line, rule) for line, rule in look(trees, trees[name]))
        for node, parent in with_parents(trees[name]):
            for look in (node_amiss, call_amiss, spot_amiss, set_amiss):
                found.extend((name, node.lineno, rule) for rule in look(node, parent, own))
    found.extend((name, 1, "L16") for name in trees if imports_itself(trees, name))
    found.extend(("*", 1, "L18") for word in own_methods(trees) & own_attributes(trees))
    found.extend(("*", 1, "L26") for word in own_attributes(trees) & BARRED_ATTRIBUTES)
    for name, tree in trees.items():
        found.extend((name, line, "L18") for line in read_only(tree, own_attributes(trees)))
        found.extend((name, node.lineno, "L23") for node in ast.walk(tree) if isinstance(node, ast.For) and changes_itself(node))
    return sorted(set(found))


def with_parents(tree):
    for parent in ast.walk(tree):
        for node in ast.iter_child_nodes(parent):
            if hasattr(node, "lineno"):
                yield node, parent
            else:
                # What has no line of its own, as a comprehension's for, lends its parent's.
                for inner in ast.iter_child_nodes(node):
                    if hasattr(inner, "lineno"):
                        yield inner, node


def own_methods(trees):
    return {node.name for tree in trees.values() for kind in ast.walk(tree) if isinstance(kind, ast.ClassDef)
            for node in kind.body if isinstance(node, ast.FunctionDef)} - DOUBLE


def own_attributes(trees):
    return {node.attr for tree in trees.values() for node in ast.walk(tree)
            if isinstance(node, ast.Attribute) and isinstance(node.ctx, ast.Store)}


def read_only(tree, attributes):
    """The lines on which an attribute is read, not called, that no class of the package has."""
    called = {id(node.func) for node in ast.walk(tree) if isinstance(node, ast.Call)}
    for node in ast.walk(tree):
        if isinstance(node, ast.Attribute) and isinstance(node.ctx, ast.Load) and id(node) not in called:
            if node.attr not in attributes:
                yield node.lineno


def changes_itself(loop):
    """Whether a loop changes what it goes over, by its very name."""
    over = {ast.unparse(node) for node in ast.walk(loop.iter) if isinstance(node, (ast.Name, ast.Attribute))}
    for row in loop.body:
        for node in ast.walk(row):
            if isinstance(node, ast.Call) and isinstance(node.func, ast.Attribute):
                if node.func.attr in CHANGING and ast.unparse(node.func.value) in over:
                    return True
            if isinstance(node, ast.Subscript) and not isinstance(node.ctx, ast.Load) and ast.unparse(node.value) in over:
                return True
    return False


def file_amiss(name, source):
    stem = name[:-3]
    if not FILE_NAME.fullmatch(name) or BARRED_FILE.fullmatch(stem) or stem in vars(builtins):
        yield 1, "L14"


def text_amiss(name, source):
    lines = source.split("\n")
    if len(lines) - 1 > 400:
        yield 401, "L10"
    for at, line in enumerate(lines, 1):
        if len(line) > 120 or "\t" in line:
            yield at, "L10"
        if any(not " " <= sign <= "~" for sign in line):
            yield at, "L14"
        if WORDS.search(line):
            yield at, "L17"


def tokens_amiss(name, source):
    for token in tokenize.generate_tokens(io.StringIO(source).readline):
        if token.type == tokenize.STRING:
            if re.search(r"\\[^nt\\'\"]", token.string):
                yield token.start[0], "L27"
            if re.search(r"\._{1,2}['\"]+$", token.string):
                yield token.start[0], "L27"


def module_amiss(trees, tree):
    bound = set()
    for at, node in enumerate(tree.body):
        if isinstance(node, ast.Expr) and at == 0 and isinstance(node.value, ast.Constant):
            continue
        if isinstance(node, ast.ImportFrom):
            names = [alias.name for alias in node.names]
        elif isinstance(node, (ast.FunctionDef, ast.ClassDef)):
            names = [node.name]
        elif isinstance(node, ast.Assign) and len(node.targets) == 1 and isinstance(node.targets[0], ast.Name):
            names = [node.targets[0].id]
            if any(isinstance(inner, (ast.Call, ast.ListComp, ast.Set)) for inner in ast.walk(node.value)):
                yield node.lineno, "L3"
        else:
            yield node.lineno, "L3"
            continue
        for name in names:
            if name in bound:
                yield node.lineno, "L15"
            bound.add(name)


def bound_names(tree):
    for node in ast.walk(tree):
        if isinstance(node, ast.Name) and isinstance(node.ctx, ast.Store):
            yield node.lineno, node.id
        elif isinstance(node, ast.arg):
            yield node.lineno, node.arg
        elif isinstance(node, (ast.FunctionDef, ast.ClassDef)):
            yield node.lineno, node.name
        elif isinstance(node, ast.ExceptHandler) and node.name:
            yield node.lineno, node.name
        elif isinstance(node, ast.alias):
            yield node.lineno, node.asname or node.name


def names_amiss(trees, tree):
    held = set(vars(builtins))
    bound = list(bound_names(tree))
    outer = {alias.name for node in tree.body if isinstance(node, ast.ImportFrom) for alias in node.names}
    outer |= {node.name for node in tree.body if isinstance(node, ast.ClassDef)}
    methods = own_methods(trees)
    for line, name in bound:
        if not PLAIN_NAME.fullmatch(name) and name not in DOUBLE:
            yield line, "L12"
        if name in NAMES:
            yield line, "L17"
        if name in held and name not in methods:
            yield line, "L15"
    for node in ast.walk(tree):
        if isinstance(node, FUNCTIONS):
            for line, name in bound_names(node):
                if name in outer:
                    yield line, "L15"
        if isinstance(node, ast.Attribute) and (node.attr in NAMES or node.attr.startswith("_")):
            if node.attr not in DOUBLE:
                yield node.lineno, "L17"
    known = {name for line, name in bound} | CALLED | ERRORS
    for node in ast.walk(tree):
        if isinstance(node, ast.Name) and isinstance(node.ctx, ast.Load) and node.id not in known:
            yield node.lineno, "L8"


def imports_amiss(trees, tree):
    for node in ast.walk(tree):
        if isinstance(node, ast.Import):
            yield node.lineno, "L2"
        elif isinstance(node, ast.ImportFrom):
            at = (node.module or "").rpartition(".")
            if node not in tree.body or node.level or at[0] != PACKAGE or any(alias.asname for alias in node.names):
                yield node.lineno, "L2"
                continue
            if any(alias.name not in top_names(trees, at[2] + ".py") for alias in node.names):
                yield node.lineno, "L16"
    kinds = [isinstance(node, ast.ImportFrom) for node in tree.body if not isinstance(node, ast.Expr)]
    if kinds != sorted(kinds, reverse=True):
        yield 1, "L2"


def top_names(trees, name):
    """The names that a file itself defines."""
    found = set()
    for node in body_of(trees, name):
        if isinstance(node, (ast.FunctionDef, ast.ClassDef)):
            found.add(node.name)
        elif isinstance(node, ast.Assign):
            found.add(node.targets[0].id)
    return found


def body_of(trees, name):
    return trees[name].body if name in trees else []


def imports_itself(trees, name):
    seen, ahead = set(), [name]
    while ahead:
        for node in body_of(trees, ahead.pop()):
            if isinstance(node, ast.ImportFrom):
                other = (node.module or "").rpartition(".")[2] + ".py"
                if other == name:
                    return True
                if other not in seen:
                    seen.add(other)
                    ahead.append(other)
    return False


def node_amiss(node, parent, own):
    if isinstance(node, ast.FunctionDef):
        if node.end_lineno - node.lineno + 1 > 40:
            yield "L10"
        if node.decorator_list or node.args.posonlyargs:
            yield "L4"
        if any(not is_literal(worth) for worth in node.args.defaults):
            yield "L4"
        if node.returns or any(arg.annotation for arg in node.args.args):
            yield "L21"
        if node.name == "__init__" and any(isinstance(inner, ast.Return) for inner in ast.walk(node)):
            yield "L28"
    if isinstance(node, ast.ClassDef) and (node.decorator_list or node.keywords):
        yield "L5"
    if isinstance(node, ast.ClassDef) and not isinstance(parent, ast.Module):
        yield "L15"
    if isinstance(node, (ast.Global, ast.AsyncFunctionDef, ast.AsyncFor, ast.AsyncWith, ast.Await)):
        yield "L6"
    if isinstance(node, ast.Constant) and isinstance(node.value, (float, complex)):
        yield "L7"
    if isinstance(node, ast.Constant) and isinstance(node.value, str) and "%" in node.value:
        yield "L27"
    if isinstance(node, (ast.BinOp, ast.AugAssign)) and isinstance(node.op, (ast.Div, ast.MatMult)):
        yield "L7"
    if isinstance(node, ast.BinOp) and isinstance(node.op, ast.Pow) and not is_literal(node.right):
        yield "L27"
    if isinstance(node, ast.AnnAssign):
        yield "L21"
    if isinstance(node, ast.Compare) and any(isinstance(op, (ast.Is, ast.IsNot)) for op in node.ops):
        if not all(isinstance(side, ast.Constant) for side in node.comparators):
            yield "L20"
    if isinstance(node, ast.ExceptHandler) and (node.type is None or caught(node.type) & {"Exception", "TypeError"}):
        yield "L19"
    if isinstance(node, ast.Raise) and node.exc is not None:
        if not isinstance(node.exc, ast.Call) or not isinstance(node.exc.func, ast.Name):
            yield "L19"


def is_literal(node):
    try:
        ast.literal_eval(node)
    except ValueError:
        return False
    return True


def caught(node):
    return {inner.id for inner in ast.walk(node) if isinstance(inner, ast.Name)}


def called_name(node):
    if isinstance(node, ast.Call) and isinstance(node.func, ast.Name):
        return node.func.id
    return None


def call_amiss(node, parent, own):
    if isinstance(node, ast.Name) and isinstance(node.ctx, ast.Load) and node.id in CALLED:
        is_called = isinstance(parent, ast.Call) and parent.func is node
        is_kind = isinstance(parent, (ast.Tuple, ast.Call)) and node.id in (
            "int", "str", "bool", "bytes", "list", "tuple", "dict")
        is_key = isinstance(parent, ast.keyword) and parent.arg == "key"
        if not is_called and not is_kind and not is_key:
            yield "L22"
    if isinstance(node, ast.Call) and isinstance(node.func, ast.Name) and node.func.id in CALLED:
        if any(word.arg not in KEYWORDS.get(node.func.id, ()) for word in node.keywords):
            yield "L22"
    if isinstance(node, ast.Attribute) and isinstance(node.ctx, ast.Load):
        if isinstance(parent, ast.Call) and parent.func is node:
            if node.attr not in METHODS | own | DOUBLE:
                yield "L25"
            if node.attr in METHODS - own - {"sort"} and parent.keywords:
                yield "L25"
        elif node.attr in METHODS:
            yield "L25"


def spot_amiss(node, parent, own):
    """What is iterated at once, and where generator expressions stand."""
    at_once = isinstance(parent, ast.Call) and node in parent.args
    if isinstance(node, ast.GeneratorExp):
        joined = isinstance(parent, ast.Call) and isinstance(parent.func, ast.Attribute) and parent.func.attr == "join"
        if not at_once or not (joined or called_name(parent) in OVER_GENERATOR):
            yield "L7"
    views = isinstance(node, ast.Call) and isinstance(node.func, ast.Attribute) and \
        node.func.attr in ("items", "keys", "values")
    if called_name(node) in ("zip", "enumerate", "reversed", "range") or views:
        looped = isinstance(parent, LOOPS) and parent.iter is node
        tested = isinstance(parent, ast.Compare) and isinstance(parent.ops[0], (ast.In, ast.NotIn))
        if called_name(node) == "range" and called_name(parent) in ("reversed", "len"):
            return
        if not looped and not tested and not (at_once and called_name(parent) in AT_ONCE):
            yield "L23"


def set_amiss(node, parent, own):
    made = called_name(node) in ("set", "frozenset") or isinstance(node, (ast.Set, ast.SetComp))
    if not made:
        return
    if called_name(node) == "frozenset":
        yield "L24"
    if isinstance(node, ast.Set) and sum(isinstance(thing, ast.Constant) for thing in node.elts) > 2:
        yield "L13"
    asked = called_name(parent) in ("sorted", "len") or isinstance(parent, (ast.Compare, ast.BinOp))
    stored = isinstance(parent, ast.Assign) and isinstance(parent.targets[0], ast.Name)
    if not asked and not stored:
        yield "L24"
