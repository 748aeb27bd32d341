"""Looks at the package's files by the rules of the language that it keeps to (L1 to L28).

It tells what a look at one file's tree can tell, as a list of (rule, line), and is rather too
strict than too lax. What the rules leave to the reader's eye is not looked at here.
"""

import ast
import builtins
import re

PACKAGE = "viewwood"

STATEMENTS = (ast.Assign, ast.AnnAssign, ast.AugAssign, ast.If, ast.While, ast.For, ast.Return, ast.Break,
              ast.Continue, ast.Pass, ast.Raise, ast.Try, ast.Expr, ast.FunctionDef, ast.ClassDef, ast.ImportFrom)
EXPRESSIONS = (ast.Constant, ast.List, ast.Tuple, ast.Dict, ast.Set, ast.BinOp, ast.UnaryOp, ast.BoolOp, ast.Compare,
               ast.IfExp, ast.Call, ast.Attribute, ast.Subscript, ast.Slice, ast.ListComp, ast.JoinedStr,
               ast.FormattedValue, ast.Name, ast.Lambda)
OWN_NAMES = set("""len range enumerate zip min max sum abs sorted reversed int str bool list tuple dict set frozenset
isinstance ord repr any all divmod Exception ValueError TypeError KeyError IndexError LookupError ZeroDivisionError
ArithmeticError OverflowError RuntimeError NotImplementedError AttributeError StopIteration""".split())
METHODS = set("""append clear copy count endswith extend find get index insert isalnum isalpha isdigit islower isspace
isupper items join keys ljust lower lstrip partition pop remove replace reverse rfind rjust rpartition rsplit rstrip
setdefault split splitlines startswith strip update upper values zfill bit_length""".split())
DOUBLE = set("__init__ __eq__ __repr__ __str__ __len__".split())
WORDS_OUT = set("""type typing typing_extensions enum Enum IntEnum StrEnum Flag IntFlag Generic Protocol ABC ABCMeta
namedtuple NamedTuple TypedDict TYPE_CHECKING abstractmethod""".split())
WITHIN_OUT = ("dataclass", "overload", "contextmanager")
NAMES_OUT = set("""register mro elements open input version_info with_traceback add_note format format_map attrgetter
breakpoint builtins compile copyright credits delattr dir eval exec exit gc getattr globals hasattr help id importlib
license locals methodcaller os quit setattr super sys type vars chr print""".split())
VALUES_OUT = set("""items keys values pop update append clear extend insert remove reverse setdefault sort args encode
format""".split())
FILES_OUT = set("test tests testing site conftest sitecustomize usercustomize".split()) | WORDS_OUT | set(dir(builtins))
KEYWORDS = {"sorted": ("key", "reverse"), "min": ("key", "default"), "max": ("key", "default"), "sum": ("start",),
            "enumerate": ("start",), "zip": ("strict",)}
WALKED = ("zip", "enumerate", "reversed", "range")
WALKED_METHODS = ("items", "keys", "values")
WALKERS = ("list", "tuple", "dict", "sorted", "sum", "any", "all", "enumerate", "zip", "min", "max")


def file_name_faults(name):
    """The rules that a file's name in the package breaks."""
    if name in ("__init__.py", "__main__.py"):
        return []
    plain = re.fullmatch(r"[a-z][a-z0-9_]*\.py", name)
    if not plain or name[:-3] in FILES_OUT or name.startswith("test_"):
        return [("L14", 0)]
    return []


def faults(source):
    """The list of (rule, line) that a file of the package breaks by itself."""
    tree = ast.parse(source)
    parents = {}
    for node in ast.walk(tree):
        for inner in ast.iter_child_nodes(node):
            parents[inner] = node
    told = text_faults(source) + top_faults(tree) + local_faults(tree)
    for node in ast.walk(tree):
        for look in (look_at_form, look_at_name, look_at_def, look_at_call, look_at_walk, look_at_value):
            told.extend((rule, getattr(node, "lineno", 0)) for rule in look(node, parents))
    return sorted(set(told))


def text_faults(source):
    """What is seen row by row: signs, lengths, words."""
    told = []
    rows = source.split("\n")
    if len(rows) > 401:
        told.append(("L10", 401))
    for number, row in enumerate(rows, start=1):
        if len(row) > 120 or "\t" in row:
            told.append(("L10", number))
        if not all(" " <= sign <= "~" for sign in row):
            told.append(("L14", number))
        words = re.findall(r"[A-Za-z0-9_]+", row)
        if any(word in WORDS_OUT for word in words) or any(part in row for part in WITHIN_OUT):
            told.append(("L17", number))
    return told


def is_docstring(node):
    return isinstance(node, ast.Expr) and isinstance(node.value, ast.Constant) and isinstance(node.value.value, str)


def is_plain(node, known):
    """Whether a value of a file's top is written out, with functions that stand above it at most."""
    if isinstance(node, (ast.List, ast.Tuple)):
        return all(is_plain(inner, known) for inner in node.elts)
    if isinstance(node, ast.Dict):
        return all(key is not None and is_plain(key, known) for key in node.keys) and all(
            is_plain(inner, known) for inner in node.values)
    if isinstance(node, ast.UnaryOp) and isinstance(node.op, ast.USub):
        return isinstance(node.operand, ast.Constant) and isinstance(node.operand.value, int)
    if isinstance(node, ast.Name):
        return node.id in known
    return isinstance(node, ast.Constant) and (node.value is None or isinstance(node.value, (bool, int, str)))


def top_faults(tree):
    """What stands at a file's top, in what order, and each name once."""
    told, bound, functions, begun = [], [], [], False
    for place, node in enumerate(tree.body):
        line = node.lineno
        if isinstance(node, ast.ImportFrom):
            told.extend((rule, line) for rule in import_faults(node))
            told.extend([("L2", line)] if begun else [])
            bound.extend(alias.asname or alias.name for alias in node.names)
            continue
        if is_docstring(node) and place == 0:
            continue
        begun = True
        if isinstance(node, (ast.FunctionDef, ast.ClassDef)):
            bound.append(node.name)
            functions.extend([node.name] if isinstance(node, ast.FunctionDef) else [])
        elif isinstance(node, ast.Assign) and isinstance(node.targets[0], ast.Name):
            bound.append(node.targets[0].id)
            told.extend([] if is_plain(node.value, functions) else [("L3", line)])
            told.extend([("L15", line)] if holds_list(node.value) else [])
        else:
            told.append(("L3", line))
    told.extend(("L15", 0) for name in set(bound) if bound.count(name) > 1)
    return told


def holds_list(node):
    """Whether a list or dict of a file's top holds another one."""
    if not isinstance(node, (ast.List, ast.Dict)):
        return False
    return any(isinstance(inner, (ast.List, ast.Dict)) for inner in ast.walk(node) if inner is not node)


def import_faults(node):
    if node.module == "__future__":
        return []
    right = node.level == 0 and (node.module or "").startswith(PACKAGE + ".") and "__main__" not in node.module
    return [] if right and all(alias.name != "*" for alias in node.names) else ["L2"]


def local_faults(tree):
    """Locals and parameters that are called like an import, a class or a name of Python's own; unknown names."""
    told, top = [], set()
    for node in tree.body:
        if isinstance(node, ast.ImportFrom):
            top.update(alias.asname or alias.name for alias in node.names)
        elif isinstance(node, ast.ClassDef):
            top.add(node.name)
    stored = set(top)
    for node in ast.walk(tree):
        name = bound_name(node)
        if name is not None:
            stored.add(name)
            if name in top and not isinstance(node, ast.ClassDef) or name in dir(builtins) and name not in DOUBLE:
                told.append(("L15", node.lineno))
    for node in ast.walk(tree):
        if isinstance(node, ast.Name) and isinstance(node.ctx, ast.Load):
            if node.id not in stored and node.id not in OWN_NAMES:
                told.append(("L8", node.lineno))
    return told


def bound_name(node):
    """The name that a node binds, or None."""
    if isinstance(node, ast.arg):
        return node.arg
    if isinstance(node, ast.Name) and isinstance(node.ctx, ast.Store):
        return node.id
    if isinstance(node, (ast.FunctionDef, ast.ClassDef, ast.ExceptHandler)):
        return node.name
    return None


def look_at_form(node, parents):
    """Statements and expressions that are not of the language."""
    if isinstance(node, ast.stmt) and not isinstance(node, STATEMENTS):
        yield "L2" if isinstance(node, ast.Import) else "L6"
    if isinstance(node, ast.expr) and not isinstance(node, EXPRESSIONS):
        yield "L7"
    if isinstance(node, ast.Expr) and not isinstance(node.value, ast.Call) and not is_docstring(node):
        yield "L6"
    if isinstance(node, (ast.For, ast.While)) and node.orelse:
        yield "L6"
    if isinstance(node, ast.Try) and (node.finalbody or not node.handlers):
        yield "L6"
    if isinstance(node, ast.Assign) and len(node.targets) != 1:
        yield "L6"
    if isinstance(node, ast.ListComp) and (len(node.generators) != 1 or len(node.generators[0].ifs) > 1):
        yield "L7"
    if isinstance(node, ast.Compare) and any(isinstance(op, (ast.Is, ast.IsNot)) for op in node.ops):
        sides = [node.left] + node.comparators
        if not any(isinstance(s, ast.Constant) and (s.value is None or isinstance(s.value, bool)) for s in sides):
            yield "L20"
    if isinstance(node, ast.ExceptHandler):
        caught = node.type.elts if isinstance(node.type, ast.Tuple) else [node.type]
        if any(not isinstance(name, ast.Name) or name.id in ("Exception", "TypeError") for name in caught):
            yield "L19"
    if isinstance(node, ast.ImportFrom) and not isinstance(parents[node], ast.Module):
        yield "L2"


def look_at_name(node, parents):
    """Names that are out, as names, as methods or as values."""
    name = bound_name(node)
    if isinstance(node, ast.Name):
        name = node.id
    if isinstance(node, ast.Attribute):
        name = node.attr
        if isinstance(node.ctx, ast.Store) and name in VALUES_OUT:
            yield "L26"
    if name is None:
        return
    if name in NAMES_OUT or re.match(r"(f|tb|co|gi|cr|ag)_(back|next|code|frame|names|locals|globals)", name):
        yield "L17"
    if name.startswith("__") and name not in DOUBLE:
        yield "L8"
    if not name.startswith("__") and not re.fullmatch(r"[A-Za-z][A-Za-z0-9_]*", name):
        yield "L12"


def look_at_def(node, parents):
    """Functions and classes: their form and length."""
    if isinstance(node, ast.FunctionDef):
        if node.end_lineno - node.lineno >= 40:
            yield "L10"
        if node.decorator_list:
            yield "L4"
        if node.name.startswith("__") and not isinstance(parents[node], ast.ClassDef):
            yield "L8"
    if isinstance(node, ast.arguments):
        if node.vararg or node.kwarg or node.kwonlyargs or node.posonlyargs:
            yield "L4"
        if not all(is_plain(value, ()) for value in node.defaults):
            yield "L4"
    if isinstance(node, ast.ClassDef):
        if node.decorator_list or node.keywords or len(node.bases) > 1:
            yield "L5"
        if not all(isinstance(inner, (ast.FunctionDef, ast.Pass)) or is_docstring(inner) for inner in node.body):
            yield "L5"
        if not isinstance(parents[node], ast.Module):
            yield "L15"


def look_at_call(node, parents):
    """Calls: keywords, and the methods of Python's own values."""
    if not isinstance(node, ast.Call):
        return
    if any(isinstance(inner, ast.Starred) for inner in node.args):
        yield "L7"
    called = node.func.id if isinstance(node.func, ast.Name) else ""
    words = [keyword.arg for keyword in node.keywords]
    if called in OWN_NAMES and any(word not in KEYWORDS.get(called, ()) for word in words):
        yield "L22"
    if isinstance(node.func, ast.Attribute) and node.func.attr in METHODS and words:
        yield "L22"


def look_at_walk(node, parents):
    """What has to be walked on the spot, sets, and methods that are handed on."""
    if isinstance(node, ast.Attribute) and isinstance(node.ctx, ast.Load) and node.attr in METHODS:
        if not isinstance(parents[node], (ast.Call, ast.keyword)) or getattr(parents[node], "func", node) is not node:
            yield "L25"
    if isinstance(node, ast.Set):
        yield "L24"
    if not isinstance(node, ast.Call):
        return
    above = parents[node]
    name = node.func.id if isinstance(node.func, ast.Name) else ""
    method = node.func.attr if isinstance(node.func, ast.Attribute) else ""
    if name in WALKED or method in WALKED_METHODS:
        walked = isinstance(above, (ast.For, ast.comprehension)) and above.iter is node
        handed = isinstance(above, ast.Call) and getattr(above.func, "id", "") in WALKERS and node in above.args
        joined = isinstance(above, ast.Call) and getattr(above.func, "attr", "") == "join"
        if not (walked or handed or joined):
            yield "L23"
    if name in ("set", "frozenset"):
        asked = isinstance(above, (ast.Compare, ast.BinOp))
        told = isinstance(above, ast.Call) and getattr(above.func, "id", "") in ("sorted", "len")
        if not (asked or told):
            yield "L24"


def look_at_value(node, parents):
    """Numbers, texts and signs of reckoning."""
    if isinstance(node, ast.Constant):
        if isinstance(node.value, (float, complex, bytes)) or node.value is ...:
            yield "L7"
        if isinstance(node.value, str) and "%" in node.value:
            yield "L27"
    if isinstance(node, (ast.BinOp, ast.AugAssign)):
        if isinstance(node.op, (ast.Div, ast.MatMult)):
            yield "L7"
        if isinstance(node.op, ast.Pow):
            power = node.right if isinstance(node, ast.BinOp) else node.value
            if not isinstance(power, ast.Constant) or not 0 <= power.value <= 64:
                yield "L27"
    if isinstance(node, ast.FormattedValue):
        if not isinstance(node.value, ast.Name) or node.format_spec or node.conversion not in (-1, ord("r")):
            yield "L7"
