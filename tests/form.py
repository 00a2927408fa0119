"""Finds code outside the kept part of the language, as far as a walk over the tree of a file can see it."""

import ast
import builtins
import re

PACKAGE = "lightmark"

NODES = tuple(getattr(ast, name) for name in """
    Module FunctionDef ClassDef arguments arg Return Assign AugAssign If While For Break Continue Pass Raise Try
    ExceptHandler Expr Import ImportFrom alias BoolOp And Or BinOp Add Sub Mult FloorDiv Mod Pow BitAnd BitOr BitXor
    LShift RShift UnaryOp Not USub UAdd Invert Compare Eq NotEq Lt LtE Gt GtE Is IsNot In NotIn Call Attribute
    Subscript Slice IfExp Lambda ListComp comprehension JoinedStr FormattedValue Name Load Store Constant List Tuple
    Dict Set keyword
""".split())

OWN_NAMES = """
    len range enumerate zip min max sum abs sorted reversed int str bool list tuple dict set frozenset isinstance ord
    repr any all divmod Exception ValueError TypeError KeyError IndexError LookupError ZeroDivisionError
    ArithmeticError OverflowError RuntimeError NotImplementedError AttributeError StopIteration
""".split()

METHODS = """
    append clear copy count endswith extend find get index insert isalnum isalpha isdigit islower isspace isupper
    items join keys ljust lower lstrip partition pop remove replace reverse rfind rjust rpartition rsplit rstrip
    setdefault split splitlines startswith strip update upper values zfill bit_length
""".split()

WALKED = "zip enumerate reversed range items keys values".split()

WALKERS = "list tuple dict sorted sum any all enumerate zip min max".split()

VALUE_NAMES = "count index title find get join lower upper split strip copy add".split()

DUNDERS = "__init__ __eq__ __repr__ __str__ __len__".split()

UNUSED_NAMES = """
    register mro elements open input version_info with_traceback add_note attrgetter breakpoint builtins compile
    copyright credits delattr dir eval exec exit gc getattr globals hasattr help id importlib license locals
    methodcaller os quit setattr super vars sys format format_map
""".split()

UNUSED_WORDS = re.compile(
    r"\b(type|typing|typing_extensions|enum|Enum|IntEnum|StrEnum|Flag|IntFlag|Generic|Protocol|ABC|ABCMeta"
    r"|namedtuple|NamedTuple|TypedDict|TYPE_CHECKING|abstractmethod)\b|dataclass|overload|contextmanager")


def row_faults(source):
    rows = source.split("\n")
    if len(rows) - 1 > 400:
        yield "L10 a file of more than 400 rows"
    for number, row in enumerate(rows, start=1):
        if len(row) > 120:
            yield f"L10 row {number} is too long"
        if not re.fullmatch(r"[ -~]*", row):
            yield f"L14 row {number} has a sign that is not kept to"
        if UNUSED_WORDS.search(row):
            yield f"L17 row {number} has a word that is not used"
        if "\\" in re.sub(r"\\[nt\\'\"]", "", row):
            yield f"L27 row {number} has an escape that is not kept to"


def is_docstring(node):
    return isinstance(node, ast.Expr) and isinstance(node.value, ast.Constant) and isinstance(node.value.value, str)


def is_one_name(node):
    return isinstance(node, ast.Assign) and len(node.targets) == 1 and isinstance(node.targets[0], ast.Name)


def top_faults(tree):
    if not tree.body or not is_docstring(tree.body[0]):
        yield "L3 no docstring at the top"
    bound = []
    for node in tree.body[1:]:
        if isinstance(node, ast.ImportFrom):
            bound += [alias.name for alias in node.names]
        elif isinstance(node, (ast.FunctionDef, ast.ClassDef)):
            bound.append(node.name)
        elif is_one_name(node):
            bound.append(node.targets[0].id)
        else:
            yield f"L3 row {node.lineno} does not belong to the top"
    if len(bound) != len(set(bound)):
        yield "L15 a name is bound twice at the top"


def import_faults(node):
    if isinstance(node, ast.Import):
        yield "L16 an import that is not from a file"
    if isinstance(node, ast.ImportFrom):
        if node.level or not node.module.startswith(PACKAGE + "."):
            yield "L2 an import from outside the package"
        if any(alias.name == "*" or alias.asname for alias in node.names):
            yield "L16 an import of all, or under another name"


def def_faults(node):
    if isinstance(node, (ast.FunctionDef, ast.Lambda)):
        given = node.args
        if given.vararg or given.kwarg or given.kwonlyargs or given.posonlyargs:
            yield "L4 parameters that are not plain"
    if isinstance(node, ast.FunctionDef):
        if node.decorator_list or node.returns or any(arg.annotation for arg in node.args.args):
            yield "L4 a decorator, or L21 an annotation"
        if node.end_lineno - node.lineno + 1 > 40:
            yield "L10 a function of more than 40 rows"
    if isinstance(node, ast.ClassDef):
        if node.decorator_list or node.keywords or len(node.bases) > 1:
            yield "L5 a class that is not plain"
        if not all(isinstance(part, (ast.FunctionDef, ast.Pass)) for part in node.body):
            yield "L5 a value in a class body"


def statement_faults(node):
    if not isinstance(node, NODES):
        yield f"L6 or L7 {type(node).__name__} is not kept to"
    if isinstance(node, ast.Assign) and (len(node.targets) != 1 or isinstance(node.targets[0], (ast.Tuple, ast.List))):
        yield "L6 more than one target"
    if isinstance(node, (ast.For, ast.While, ast.Try)) and (getattr(node, "finalbody", []) or (
            node.orelse and not isinstance(node, ast.Try))):
        yield "L6 else behind a loop, or finally"
    if isinstance(node, ast.Expr) and not isinstance(node.value, ast.Call) and not is_docstring(node):
        yield "L6 an expression by itself"
    if isinstance(node, ast.ListComp) and (len(node.generators) != 1 or len(node.generators[0].ifs) > 1):
        yield "L7 a comprehension with more than one for or if"


def value_faults(node):
    if isinstance(node, ast.Constant):
        if isinstance(node.value, (float, complex, bytes)) or node.value is ...:
            yield "L7 a value of a kind that is not kept to"
        if isinstance(node.value, str) and "%" in node.value:
            yield "L27 a percent sign in a text"
    if isinstance(node, ast.FormattedValue) and (not isinstance(node.value, ast.Name) or node.format_spec):
        yield "L7 an f-string that is not plain"
    if isinstance(node, ast.Compare):
        for asked, other in zip(node.ops, node.comparators):
            if isinstance(asked, (ast.Is, ast.IsNot)) and not (
                    isinstance(other, ast.Constant) and other.value in (None, True, False)):
                yield "L20 is, beside another thing than None, True or False"


def name_faults(node, methods):
    bound = []
    if isinstance(node, ast.Name):
        if hasattr(builtins, node.id) and node.id not in OWN_NAMES:
            yield f"L8 {node.id} is not kept to"
        bound = [node.id] if isinstance(node.ctx, ast.Store) else []
    if isinstance(node, (ast.arg, ast.FunctionDef, ast.ClassDef)):
        bound = [node.arg if isinstance(node, ast.arg) else node.name]
    for name in bound:
        if not re.fullmatch(r"[A-Za-z][A-Za-z0-9_]*", name) and name not in DUNDERS:
            yield f"L12 {name} is no plain name"
        if (hasattr(builtins, name) and name not in DUNDERS) or name in UNUSED_NAMES:
            yield f"L15 or L17 {name} is not to be bound"
    if isinstance(node, ast.Attribute) and (node.attr in UNUSED_NAMES or (
            node.attr.startswith("_") and node.attr != "__init__")):
        yield f"L8 or L17 {node.attr} is not used"
    if isinstance(node, ast.Call) and isinstance(node.func, ast.Attribute) and (
            node.func.attr not in METHODS + methods + ["__init__"]):
        yield f"L25 {node.func.attr} is no method that is kept to"


def methods_of(tree):
    classes = [node for node in ast.walk(tree) if isinstance(node, ast.ClassDef)]
    return [part.name for node in classes for part in node.body if isinstance(part, ast.FunctionDef)]


def values_of(tree):
    """The names of the values that objects are given."""
    stored = [node for node in ast.walk(tree) if isinstance(node, ast.Attribute) and isinstance(node.ctx, ast.Store)]
    return [node.attr for node in stored]


def handed_on_faults(tree, methods):
    called = [node.func for node in ast.walk(tree) if isinstance(node, ast.Call)]
    for node in ast.walk(tree):
        if isinstance(node, ast.Attribute) and node.attr in methods + METHODS and node not in called:
            yield f"L25 row {node.lineno}: {node.attr} is not called where it stands"


def kept_walk_faults(tree):
    walked = []
    for node in ast.walk(tree):
        if isinstance(node, (ast.For, ast.comprehension)):
            walked.append(node.iter)
        if isinstance(node, ast.Call) and isinstance(node.func, ast.Name) and node.func.id in WALKERS:
            walked += node.args
    for node in ast.walk(tree):
        if isinstance(node, ast.Call) and node not in walked:
            name = node.func.id if isinstance(node.func, ast.Name) else getattr(node.func, "attr", "")
            if name in WALKED:
                yield f"L23 row {node.lineno}: {name} is not walked on the spot"


def value_name_faults(tree):
    for name in values_of(tree):
        if any(hasattr(kind, name) for kind in (str, int, list, dict, set, bytes, tuple)) and name not in VALUE_NAMES:
            yield f"L26 a value is called {name}"


def clashes(sources):
    """Names that are a method in one class and a value in another, over all files."""
    trees = [ast.parse(source) for source in sources]
    methods = {name for tree in trees for name in methods_of(tree)}
    return sorted(methods & {name for tree in trees for name in values_of(tree)})


def twice_in_a_class(tree):
    for node in ast.walk(tree):
        if isinstance(node, ast.ClassDef):
            names = [part.name for part in node.body if isinstance(part, ast.FunctionDef)]
            if len(names) != len(set(names)):
                yield f"L18 a method stands twice in {node.name}"


def shadow_faults(tree):
    tops = [node.name for node in tree.body if isinstance(node, ast.ClassDef)]
    tops += [alias.name for node in tree.body if isinstance(node, ast.ImportFrom) for alias in node.names]
    for node in ast.walk(tree):
        bound = node.arg if isinstance(node, ast.arg) else None
        if isinstance(node, ast.Name) and isinstance(node.ctx, ast.Store):
            bound = node.id
        if bound in tops:
            yield f"L15 row {node.lineno}: {bound} is called like a class or an import"


def faults(source, methods=()):
    """What is outside the rules in this file; methods are those of the package's own classes."""
    tree = ast.parse(source)
    found = list(row_faults(source)) + list(top_faults(tree)) + list(shadow_faults(tree))
    found += list(handed_on_faults(tree, list(methods))) + list(kept_walk_faults(tree))
    found += list(value_name_faults(tree)) + list(twice_in_a_class(tree))
    for node in ast.walk(tree):
        for look in (import_faults, def_faults, statement_faults, value_faults):
            found += [f"row {getattr(node, 'lineno', 0)}: {fault}" for fault in look(node)]
        found += [f"row {getattr(node, 'lineno', 0)}: {fault}" for fault in name_faults(node, list(methods))]
    return found
