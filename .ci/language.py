"""Looks through a package for code outside the part of Python that it keeps to.

It sees the plainest of the rules L1 to L28 of ../shared/LANGUAGE.md, not all of them.
Use: python3 .ci/language.py FOLDER
"""

import ast
import builtins
import pathlib
import re
import sys

NODES = (
    "Module Expr Constant Assign AugAssign AnnAssign If While For Return Break Continue Pass Raise Try ExceptHandler "
    "Assert Delete Import ImportFrom alias FunctionDef ClassDef arguments arg Lambda Name Load Store Del Tuple List "
    "Dict Set Starred BinOp UnaryOp BoolOp Compare IfExp Call keyword Attribute Subscript Slice ListComp DictComp "
    "SetComp comprehension JoinedStr FormattedValue Add Sub Mult FloorDiv Mod Pow LShift RShift BitAnd BitOr BitXor "
    "Invert Not USub UAdd And Or Eq NotEq Lt LtE Gt GtE Is IsNot In NotIn"
).split()
BUILTINS = (
    "len range enumerate zip min max sum abs sorted reversed int str bool bytes list tuple dict set isinstance ord "
    "repr any all divmod Exception ValueError TypeError KeyError IndexError LookupError ZeroDivisionError "
    "ArithmeticError OverflowError RuntimeError NotImplementedError AttributeError StopIteration"
).split()
METHODS = (
    "append clear copy count endswith extend find get index insert isalnum isalpha isdigit islower isspace isupper "
    "items join keys ljust lower lstrip partition pop remove replace reverse rfind rjust rpartition rsplit rstrip "
    "setdefault split splitlines startswith strip update upper values zfill bit_length title capitalize swapcase "
    "casefold center expandtabs removeprefix removesuffix rindex isascii isdecimal isnumeric istitle isidentifier "
    "isprintable sort add discard"
).split()
DUNDERS = "__init__ __eq__ __repr__ __str__ __len__".split()
WORDS = re.compile(
    r"\b(type|typing|typing_extensions|enum|Enum|IntEnum|StrEnum|Flag|IntFlag|Generic|Protocol|ABC|ABCMeta|namedtuple"
    r"|NamedTuple|TypedDict|TYPE_CHECKING|abstractmethod)\b|dataclass|overload|contextmanager"
)
NEVER_NAMES = (
    "register mro elements open input version_info with_traceback add_note attrgetter breakpoint builtins compile "
    "copyright credits delattr dir eval exec exit gc getattr globals hasattr help id importlib license locals "
    "methodcaller os quit setattr super type vars sys"
).split()


def look_at_signs(path, text, faults):
    lines = text.split("\n")
    if len(lines) > 401:
        faults.append(f"L10 {path}: more than 400 lines")
    for number, line in enumerate(lines, start=1):
        if len(line) > 120:
            faults.append(f"L10 {path}:{number}: a long line")
        if re.search(r"[^ -~]", line):
            faults.append(f"L14 {path}:{number}: a sign beyond blank to tilde")
        if WORDS.search(line):
            faults.append(f"L17 {path}:{number}: a word that stands nowhere")


def names_of(node):
    """The names that a node binds or asks."""
    if isinstance(node, ast.Name):
        return [node.id]
    if isinstance(node, ast.arg):
        return [node.arg]
    if isinstance(node, (ast.FunctionDef, ast.ClassDef)):
        return [node.name]
    if isinstance(node, ast.Attribute):
        return [node.attr]
    return []


def binds_builtin(node):
    if isinstance(node, ast.Name) and not isinstance(node.ctx, ast.Load):
        return hasattr(builtins, node.id)
    return isinstance(node, ast.arg) and hasattr(builtins, node.arg)


def look_at_node(path, node, own, faults):
    kind = node.__class__.__name__

    def fault(words):
        faults.append(f"{path}:{getattr(node, 'lineno', 0)}: {words}")

    if kind not in NODES:
        fault(f"L6/L7 {kind}")
    for name in names_of(node):
        if name.startswith("_") and name not in DUNDERS:
            fault(f"L12 the name {name}")
        if name in NEVER_NAMES:
            fault(f"L17 the name {name}")
    if binds_builtin(node):
        fault("L15 a name of Python's own is bound")
    if isinstance(node, ast.Name) and isinstance(node.ctx, ast.Load):
        if hasattr(builtins, node.id) and node.id not in BUILTINS:
            fault(f"L8 the name {node.id}")
    if isinstance(node, ast.Call) and isinstance(node.func, ast.Attribute):
        if node.func.attr not in METHODS and node.func.attr not in own and node.func.attr not in DUNDERS:
            fault(f"L25 the method {node.func.attr}")
    if isinstance(node, ast.Constant) and isinstance(node.value, str) and "%" in node.value:
        fault("L27 a percent sign")
    if isinstance(node, ast.Constant) and isinstance(node.value, (float, complex)):
        fault("L7 a float")
    if isinstance(node, ast.BinOp) and isinstance(node.op, ast.Pow):
        if not (isinstance(node.right, ast.Constant) and node.right.value in range(65)):
            fault("L27 a power whose exponent is not written")
    if isinstance(node, ast.Compare):
        for op, right in zip(node.ops, node.comparators):
            if isinstance(op, (ast.Is, ast.IsNot)) and not (
                isinstance(right, ast.Constant) and any(right.value is it for it in (None, True, False))
            ):
                fault("L20 is beside another thing")
    if isinstance(node, (ast.FunctionDef, ast.ClassDef)) and node.decorator_list:
        fault("L4/L5 a decorator")
    if isinstance(node, ast.ClassDef) and (len(node.bases) > 1 or node.keywords):
        fault("L5 more than one base")
    if isinstance(node, ast.FunctionDef) and node.end_lineno - node.lineno >= 40:
        fault("L10 a function of more than 40 lines")
    if isinstance(node, ast.arguments) and (node.vararg or node.kwarg or node.posonlyargs):
        fault("L4 parameters that are not plain")


def top_names(tree):
    names = []
    for node in tree.body:
        if isinstance(node, (ast.FunctionDef, ast.ClassDef)):
            names.append(node.name)
        elif isinstance(node, ast.Assign):
            names.extend(target.id for target in node.targets if isinstance(target, ast.Name))
    return names


def look_at_imports(path, tree, tops, faults):
    bound = top_names(tree)
    for node in ast.walk(tree):
        if isinstance(node, ast.ImportFrom) and node.module != "__future__":
            if node not in tree.body or node.level or node.module not in tops:
                faults.append(f"L2 {path}:{node.lineno}: an import of another thing than the package's own")
                continue
            for alias in node.names:
                bound.append(alias.asname or alias.name)
                if alias.name not in tops[node.module]:
                    faults.append(f"L16 {path}:{node.lineno}: {alias.name} is not defined in {node.module}")
        elif isinstance(node, ast.Import) and path.name != "__main__.py":
            faults.append(f"L16 {path}:{node.lineno}: a plain import")
    for name in sorted(set(bound)):
        if bound.count(name) > 1:
            faults.append(f"L15 {path}: {name} is bound more than once at the top")


def look_at_locals(path, tree, faults):
    """No local and no parameter is called like a class or an import of its file."""
    taken = [node.name for node in tree.body if isinstance(node, ast.ClassDef)]
    for node in tree.body:
        if isinstance(node, ast.ImportFrom):
            taken.extend(alias.asname or alias.name for alias in node.names)
    for node in ast.walk(tree):
        given = isinstance(node, ast.Name) and not isinstance(node.ctx, ast.Load)
        if (given and node.id in taken) or (isinstance(node, ast.arg) and node.arg in taken):
            faults.append(f"L15 {path}:{node.lineno}: a local is called like a class or an import")


def methods_and_values(trees):
    methods, values = set(), set()
    for tree in trees:
        for node in ast.walk(tree):
            if isinstance(node, ast.ClassDef):
                methods.update(row.name for row in node.body if isinstance(row, ast.FunctionDef))
            if isinstance(node, ast.Attribute) and isinstance(node.ctx, ast.Store):
                values.add(node.attr)
    return methods, values


def look_through(package):
    faults = []
    paths = sorted(path for path in package.iterdir() if path.name != "__pycache__")
    for path in paths:
        if not re.fullmatch(r"[a-z0-9_]+\.py", path.name):
            faults.append(f"L1 {path}: no plain file")
    trees = {path: ast.parse(path.read_text(encoding="utf-8")) for path in paths if path.suffix == ".py"}
    methods, values = methods_and_values(trees.values())
    for name in sorted(methods & values):
        faults.append(f"L18 {name} is both a method and a value")
    tops = {f"{package.name}.{path.stem}": top_names(tree) for path, tree in trees.items()}
    for path, tree in trees.items():
        look_at_signs(path, path.read_text(encoding="utf-8"), faults)
        look_at_imports(path, tree, tops, faults)
        look_at_locals(path, tree, faults)
        for node in ast.walk(tree):
            look_at_node(path, node, methods, faults)
    return faults


def main():
    faults = look_through(pathlib.Path(sys.argv[1]))
    for fault in faults:
        print(fault)
    sys.exit(1 if faults else 0)


if __name__ == "__main__":
    main()
