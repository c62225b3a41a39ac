"""Those rules of ../shared/LANGUAGE.md that a script can look up in one file of the package."""

import ast
import builtins
import re

PACKAGE = "carriedends"

MOST_FUNCTION_LINES = 40
MOST_FILE_LINES = 399
MOST_LINE_LENGTH = 120

LIBRARY = {
    "heapq": {"heappush", "heappop", "heapify", "heapreplace", "heappushpop"},
    "math": {"gcd", "lcm", "isqrt", "comb", "perm", "factorial"},
    "itertools": {
        "product", "combinations", "permutations", "chain", "accumulate", "pairwise", "islice", "zip_longest",
    },
    "collections": {"defaultdict"},
    "__future__": {"annotations"},
}

BUILTINS = set("""
    len range enumerate zip min max sum abs sorted reversed int str bool list tuple dict set isinstance ord repr any
    all divmod pow map iter next super getattr hasattr setattr Exception ValueError TypeError KeyError IndexError
    LookupError ZeroDivisionError ArithmeticError OverflowError RuntimeError NotImplementedError AttributeError
    StopIteration NotImplemented property staticmethod classmethod
""".split())

METHODS = set("""
    append clear copy count endswith extend find get index insert isalnum isalpha isdigit islower isspace isupper
    items join keys ljust lower lstrip partition pop remove replace reverse rfind rjust rpartition rsplit rstrip
    setdefault split splitlines startswith strip update upper values zfill bit_length title capitalize swapcase
    casefold center expandtabs removeprefix removesuffix rindex isascii isdecimal isnumeric istitle isidentifier
    isprintable add discard
""".split())

# Methods of own classes, called off objects.
OWN_METHODS = set("""
    keeper_at excess_of lying_at unlike_coats exchange swap_coats claim walk lengthen wanted
    web marked made record carry around lay lift mark undo redo
""".split())

DOUBLE_UNDERSCORE = set("__init__ __eq__ __repr__ __str__ __len__ __enter__ __exit__ __call__ __iter__".split())

BARRED_NAMES = set("register mro elements open input law version_info with_traceback add_note".split())

BARRED_WORDS = set("""
    type typing typing_extensions enum Enum IntEnum StrEnum Flag IntFlag Generic Protocol ABC ABCMeta namedtuple
    NamedTuple TypedDict TYPE_CHECKING abstractmethod
""".split())

BARRED_NODES = {
    ast.Global: "L6", ast.AsyncFunctionDef: "L6", ast.AsyncFor: "L6", ast.AsyncWith: "L6", ast.Await: "L6",
    ast.Import: "L2", ast.Div: "L7", ast.MatMult: "L7", ast.AnnAssign: "L21",
}

# A class of the package has an __eq__, so these take a list in the place of a generator expression (L7).
TAKES_A_LIST = set("any all min max sum sorted".split())


def _text_faults(source):
    """Faults of characters and lines (L10, L14)."""
    lines = source.split("\n")
    if len(source.splitlines()) > MOST_FILE_LINES:
        yield ("L10", MOST_FILE_LINES + 1)
    for number, line in enumerate(lines, 1):
        if len(line) > MOST_LINE_LENGTH:
            yield ("L10", number)
        if not all(" " <= sign <= "~" for sign in line):
            yield ("L14", number)


def _bare_words(source, tree):
    """The source with comments and docstrings taken away, line by line."""
    lines = [line.split("#")[0] for line in source.split("\n")]
    for node in ast.walk(tree):
        if isinstance(node, (ast.Module, ast.ClassDef, ast.FunctionDef)) and ast.get_docstring(node) is not None:
            words = node.body[0]
            for number in range(words.lineno, words.end_lineno + 1):
                lines[number - 1] = ""
    return lines


def _word_faults(source, tree):
    """Words that stand nowhere but in comments and docstrings (L17)."""
    for number, line in enumerate(_bare_words(source, tree), 1):
        words = set(re.findall(r"\w+", line))
        if words & (BARRED_WORDS | BARRED_NAMES) or re.search("dataclass|overload|contextmanager", line):
            yield ("L17", number)


def _import_faults(tree):
    """Imports that stand elsewhere or name something else than L2 lets."""
    head = True
    for row in tree.body:
        if isinstance(row, ast.ImportFrom):
            if not head:
                yield ("L2", row.lineno)
        elif not (isinstance(row, ast.Expr) and row is tree.body[0]):
            head = False
    for node in ast.walk(tree):
        if isinstance(node, ast.ImportFrom):
            names = {alias.name for alias in node.names}
            own = node.module is not None and node.module.startswith(PACKAGE + ".")
            if node.level or not (own or names <= LIBRARY.get(node.module, set())) or "*" in names:
                yield ("L2", node.lineno)
            if not own and any(alias.asname for alias in node.names):
                yield ("L2", node.lineno)


def _module_faults(tree):
    """What stands at module level (L3), and names that are bound twice there (L15)."""
    bound = []
    for row in tree.body:
        if isinstance(row, ast.ImportFrom):
            bound += [alias.asname or alias.name for alias in row.names]
        elif isinstance(row, (ast.FunctionDef, ast.ClassDef)):
            bound.append(row.name)
        elif isinstance(row, ast.Assign) and len(row.targets) == 1 and isinstance(row.targets[0], ast.Name):
            bound.append(row.targets[0].id)
            if any(isinstance(node, (ast.Call, ast.Set, ast.ListComp)) for node in ast.walk(row.value)):
                yield ("L3", row.lineno)
        elif not (isinstance(row, ast.Expr) and row is tree.body[0] and ast.get_docstring(tree) is not None):
            yield ("L3", row.lineno)
    if len(bound) != len(set(bound)):
        yield ("L15", 1)


def _bound_in_functions(tree):
    """The names that functions bind, with their lines: parameters, variables and nested functions."""
    for function in ast.walk(tree):
        if isinstance(function, (ast.FunctionDef, ast.Lambda)):
            for node in ast.walk(function):
                if isinstance(node, ast.arg):
                    yield (node.arg, function.lineno)
                elif isinstance(node, ast.Name) and isinstance(node.ctx, ast.Store):
                    yield (node.id, node.lineno)
                elif isinstance(node, ast.FunctionDef) and node is not function:
                    yield (node.name, node.lineno)


def _name_faults(tree):
    """Names that are no plain names (L12), or that mean something else already (L8, L15)."""
    taken = set(dir(builtins))
    for row in tree.body:
        if isinstance(row, ast.ClassDef):
            taken.add(row.name)
        elif isinstance(row, ast.ImportFrom):
            taken |= {alias.asname or alias.name for alias in row.names}
    for name, line in _bound_in_functions(tree):
        if name in taken:
            yield ("L15", line)
        if not re.fullmatch(r"_|_?[A-Za-z][A-Za-z0-9_]*", name):
            yield ("L12", line)
    methods = {row for node in ast.walk(tree) if isinstance(node, ast.ClassDef) for row in node.body}
    for node in ast.walk(tree):
        if isinstance(node, ast.ClassDef) and node.name in dir(builtins):
            yield ("L15", node.lineno)
        if isinstance(node, ast.FunctionDef):
            if node.name in dir(builtins) and node not in methods:
                yield ("L15", node.lineno)
            if node.name.startswith("__") and not (node.name in DOUBLE_UNDERSCORE and node in methods):
                yield ("L5", node.lineno)
        if isinstance(node, ast.Name) and node.id in dir(builtins) and node.id not in BUILTINS:
            yield ("L8", node.lineno)
        if isinstance(node, ast.Name) and node.id == "_" and isinstance(node.ctx, ast.Load):
            yield ("L12", node.lineno)


def _plain_default(node):
    """Whether a default value is written without names, lists and calls."""
    if isinstance(node, ast.UnaryOp):
        return isinstance(node.op, ast.USub) and isinstance(node.operand, ast.Constant)
    if isinstance(node, ast.Tuple):
        return all(_plain_default(part) for part in node.elts)
    return isinstance(node, ast.Constant)


def _function_faults(tree):
    """Long functions (L10), decorators and default values (L4)."""
    for node in ast.walk(tree):
        if isinstance(node, ast.FunctionDef):
            if node.end_lineno - node.lineno + 1 > MOST_FUNCTION_LINES:
                yield ("L10", node.lineno)
            if any(not isinstance(sign, ast.Name) or sign.id not in BUILTINS for sign in node.decorator_list):
                yield ("L4", node.lineno)
            defaults = node.args.defaults + [value for value in node.args.kw_defaults if value is not None]
            if not all(_plain_default(value) for value in defaults):
                yield ("L4", node.lineno)
        if isinstance(node, ast.ClassDef) and node.decorator_list:
            yield ("L5", node.lineno)


def _is_call_of(node, names):
    return isinstance(node, ast.Call) and isinstance(node.func, ast.Name) and node.func.id in names


def _call_faults(node):
    """Calls of methods that are not listed (L25), and sorting in place (L25)."""
    if isinstance(node.func, ast.Attribute):
        above = node.func.value
        if node.func.attr not in METHODS | OWN_METHODS and not (isinstance(above, ast.Name) and above.id in ("self", "super")):
            yield ("L25", node.lineno)
    if _is_call_of(node, TAKES_A_LIST) and any(isinstance(given, ast.GeneratorExp) for given in node.args):
        yield ("L7", node.lineno)
    if _is_call_of(node, {"print", "chr", "frozenset", "bytes"}):
        yield ("L8", node.lineno)


def _constant_faults(node):
    """Values that are not written (L7, L27)."""
    if isinstance(node.value, (float, complex)) or node.value is Ellipsis:
        yield ("L7", node.lineno)
    if isinstance(node.value, str) and "%" in node.value:
        yield ("L27", node.lineno)


def _is_lasting(node):
    """Whether an is-comparison has None, True or False on one side."""
    sides = [node.left] + node.comparators
    return any(isinstance(side, ast.Constant) and side.value in (None, True, False) for side in sides)


def _is_bare(node):
    """Whether a value that stands in a call behind a star is a name, an attribute, a literal, or made of these."""
    if isinstance(node, ast.Starred):
        return isinstance(node.value, (ast.Name, ast.Attribute))
    if isinstance(node, (ast.List, ast.Tuple)):
        return all(_is_bare(part) for part in node.elts)
    return isinstance(node, (ast.Name, ast.Attribute, ast.Constant))


def _star_faults(tree):
    """Stars in the brackets of a subscript, in sets, and in calls with more than plain values behind them (L7)."""
    for node in ast.walk(tree):
        if isinstance(node, ast.Subscript):
            starred = [inner for inner in ast.walk(node.slice) if isinstance(inner, ast.Starred)]
        elif isinstance(node, ast.Set):
            starred = [inner for inner in node.elts if isinstance(inner, ast.Starred)]
        elif isinstance(node, ast.Call):
            stars = [index for index, inner in enumerate(node.args) if isinstance(inner, ast.Starred)]
            behind = node.args[stars[0]:] if stars else []
            starred = [inner for inner in behind if not _is_bare(inner)]
        else:
            starred = []
        for inner in starred:
            yield ("L7", inner.lineno)


def _node_faults(tree):
    """Statements and expressions that are not let."""
    for node in ast.walk(tree):
        for barred, rule in BARRED_NODES.items():
            if isinstance(node, barred):
                yield (rule, getattr(node, "lineno", 1))
        if isinstance(node, ast.Call):
            yield from _call_faults(node)
        elif isinstance(node, ast.Constant):
            yield from _constant_faults(node)
        elif isinstance(node, ast.Compare):
            if any(isinstance(sign, (ast.Is, ast.IsNot)) for sign in node.ops) and not _is_lasting(node):
                yield ("L20", node.lineno)
        elif isinstance(node, ast.BinOp) and isinstance(node.op, ast.Pow):
            if not (isinstance(node.right, ast.Constant) and node.right.value in range(65)):
                yield ("L27", node.lineno)
        elif isinstance(node, ast.ExceptHandler) and node.type is None:
            yield ("L6", node.lineno)
        elif isinstance(node, (ast.For, ast.comprehension)):
            over = node.iter
            if isinstance(over, (ast.Set, ast.SetComp)) or _is_call_of(over, {"set"}):
                yield ("L24", over.lineno)


def faults(source):
    """The rules that a file breaks, as a sorted list of pairs (rule, line)."""
    tree = ast.parse(source)
    found = list(_text_faults(source)) + list(_word_faults(source, tree))
    for look in (_import_faults, _module_faults, _name_faults, _function_faults, _star_faults, _node_faults):
        found += list(look(tree))
    return sorted(set(found))
