"""That the package keeps to its part of Python, as far as a test can see it.

The rules' numbers are those of the language's document, L1 to L28.
"""

import ast
import builtins
import io
import re
import tokenize
import unittest
from pathlib import Path

PACKAGE = Path(__file__).resolve().parent.parent / "turncoins"
FILES = {"__init__.py", "errors.py", "lists.py", "gates.py", "rows.py", "looks.py", "spans.py", "shorts.py",
         "bridges.py", "ties.py", "images.py", "making.py", "codes.py", "texts.py", "tellings.py", "desk.py"}

CALLED_NAMES = """len range enumerate zip min max sum abs sorted reversed int str bool list tuple dict set frozenset
    isinstance ord repr any all divmod""".split()
ERROR_NAMES = """Exception ValueError TypeError KeyError IndexError LookupError ZeroDivisionError ArithmeticError
    OverflowError RuntimeError NotImplementedError AttributeError StopIteration""".split()
METHODS = """append clear copy count endswith extend find get index insert isalnum isalpha isdigit islower isspace
    isupper items join keys ljust lower lstrip partition pop remove replace reverse rfind rjust rpartition rsplit
    rstrip setdefault split splitlines startswith strip update upper values zfill bit_length""".split()
CHANGING = "append clear extend insert pop remove reverse setdefault update".split()
OWN_METHODS = "__init__ __eq__ __repr__ __str__ __len__".split()
UNUSED_NAMES = """register mro elements open input version_info with_traceback add_note format format_map f_back
    tb_next co_names""".split()
FRAME_NAMES = re.compile("(f|tb|co|gi|cr|ag)_(back|next|names|code|frame|lineno|lasti|locals|globals|builtins|trace|"
                         "consts|varnames|freevars|cellvars|filename|name|flags|argcount|running|yieldfrom|await)")
NAMES_NOT_GIVEN = "attrgetter builtins gc importlib methodcaller os sys".split()
UNUSED_WORDS = re.compile(r"\b(type|typing|typing_extensions|enum|Enum|IntEnum|StrEnum|Flag|IntFlag|Generic|Protocol|"
                          r"ABC|ABCMeta|namedtuple|NamedTuple|TypedDict|TYPE_CHECKING|abstractmethod)\b|"
                          r"dataclass|overload|contextmanager")
VALUES_NOT_SO_CALLED = """items keys values pop update append clear extend insert remove reverse setdefault sort args
    encode format""".split()
VALUES_SO_CALLED = "count index title find get join lower upper split strip copy add".split()
NAMES_OF_PYTHONS_VALUES = {name for kind in (str, int, list, dict, set, bytes) for name in dir(kind)}
READERS = "len sorted list tuple dict sum min max any all enumerate zip reversed set".split()
READING = "get items keys values index count copy".split()
KEYWORDS = {"sorted": ("key", "reverse"), "min": ("key", "default"), "max": ("key", "default"), "sum": ("start",),
            "enumerate": ("start",), "zip": ("strict",)}
KEYS = "len int str abs sum min max tuple".split()
KINDS_ASKED = "int str bool list tuple dict".split() + ERROR_NAMES
STATEMENTS = (ast.FunctionDef, ast.ClassDef, ast.ImportFrom, ast.Assign, ast.AugAssign, ast.If, ast.While, ast.For,
              ast.Return, ast.Break, ast.Continue, ast.Pass, ast.Raise, ast.Try, ast.Expr)
EXPRESSIONS = (ast.Constant, ast.List, ast.Tuple, ast.Dict, ast.Set, ast.BinOp, ast.UnaryOp, ast.BoolOp, ast.Compare,
               ast.IfExp, ast.Call, ast.Attribute, ast.Subscript, ast.Slice, ast.ListComp, ast.JoinedStr,
               ast.FormattedValue, ast.Lambda, ast.Name)
WALKED = "zip enumerate reversed range".split()
WALKED_METHODS = "items keys values".split()
WALKERS = "list tuple dict sorted sum any all enumerate zip min max".split()
FILE_NAMES_NOT_USED = "test tests testing site conftest sitecustomize usercustomize".split() + dir(builtins)


class File:
    """One file of the package, with what its rules are asked of."""

    def __init__(self, name, text):
        self.name = name
        self.text = text
        self.tree = ast.parse(text)
        self.parents = {}
        for node in ast.walk(self.tree):
            for child in ast.iter_child_nodes(node):
                self.parents[child] = node
        self.imports = [node for node in self.tree.body if isinstance(node, ast.ImportFrom)]
        self.defs = [node for node in ast.walk(self.tree) if isinstance(node, ast.FunctionDef)]
        self.classes = [node for node in ast.walk(self.tree) if isinstance(node, ast.ClassDef)]
        self.imported = [alias.asname or alias.name for node in self.imports for alias in node.names]
        self.tops = [node.name for node in self.tree.body if isinstance(node, (ast.FunctionDef, ast.ClassDef))]
        self.tops += [target.id for node in self.tree.body if isinstance(node, ast.Assign)
                      for target in node.targets if isinstance(target, ast.Name)]

    def nodes(self, *kinds):
        return [node for node in ast.walk(self.tree) if isinstance(node, kinds)]


def is_name(node, *names):
    return isinstance(node, ast.Name) and node.id in names


def is_docstring(file, node):
    return (node is file.tree.body[0] and isinstance(node, ast.Expr) and isinstance(node.value, ast.Constant)
            and isinstance(node.value.value, str))


def is_plain_value(node, functions):
    if isinstance(node, (ast.List, ast.Tuple)):
        return all(is_plain_value(part, functions) for part in node.elts)
    if isinstance(node, ast.Dict):
        return all(is_plain_value(part, functions) for part in node.keys + node.values)
    if isinstance(node, ast.UnaryOp):
        return isinstance(node.op, ast.USub) and is_plain_value(node.operand, functions)
    return isinstance(node, ast.Constant) or is_name(node, *functions)


def signs_and_size(file):
    lines = file.text.split("\n")
    if len(lines) > 401:
        yield "L10", 401
    for number, line in enumerate(lines, 1):
        if len(line) > 120:
            yield "L10", number
        if re.search("[^ -~]", line):
            yield "L14", number
        if UNUSED_WORDS.search(line):
            yield "L17", number
    for node in file.defs:
        if node.end_lineno - node.lineno + 1 > 40:
            yield "L10", node.lineno


def file_name(file):
    stem = file.name[:-3]
    if not file.name.endswith(".py") or not re.fullmatch("[a-z0-9_]+", stem):
        yield "L1", 1
    if stem in FILE_NAMES_NOT_USED or stem.startswith("test_") or UNUSED_WORDS.fullmatch(stem):
        yield "L14", 1
    if stem.startswith("_") and stem not in ("__init__", "__main__"):
        yield "L12", 1


def top_of_module(file):
    functions = []
    begun = False
    for node in file.tree.body:
        if isinstance(node, ast.ImportFrom):
            if begun:
                yield "L2", node.lineno
            continue
        if is_docstring(file, node):
            continue
        begun = True
        if isinstance(node, ast.FunctionDef):
            functions.append(node.name)
        elif isinstance(node, ast.Assign):
            if not is_plain_value(node.value, functions) or not isinstance(node.targets[0], ast.Name):
                yield "L3", node.lineno
            elif isinstance(node.value, (ast.List, ast.Dict)):
                if any(isinstance(part, (ast.List, ast.Dict)) for part in list(ast.walk(node.value))[1:]):
                    yield "L15", node.lineno
        elif not isinstance(node, ast.ClassDef):
            yield "L3", node.lineno
    for name in file.tops + file.imported:
        if (file.tops + file.imported).count(name) > 1:
            yield "L15", 1


def imports(file, files):
    for node in file.nodes(ast.Import, ast.ImportFrom):
        if isinstance(node, ast.Import) or node.level or node not in file.tree.body:
            yield "L2", node.lineno
            continue
        parts = (node.module or "").split(".")
        if parts[0] != "turncoins" or any(alias.name == "*" for alias in node.names):
            yield "L2", node.lineno
            continue
        drawn = [other for other in files if len(parts) == 2 and other.name == parts[1] + ".py"]
        if not drawn or any(alias.name not in drawn[0].tops for alias in node.names):
            yield "L16", node.lineno


def drawn_in_a_ring(files):
    draws = {file.name: [node.module.split(".")[-1] + ".py" for node in file.imports if node.module] for file in files}
    for name in draws:
        reached, coming = [], list(draws[name])
        while coming:
            other = coming.pop()
            if other not in reached:
                reached.append(other)
                coming += draws.get(other, [])
        if name in reached:
            yield "L16", name, 1


def functions(file):
    for node in file.nodes(ast.FunctionDef, ast.Lambda):
        told = node.args
        if told.vararg or told.kwarg or told.kwonlyargs or told.posonlyargs:
            yield "L4", node.lineno
        if not all(is_plain_value(default, ()) for default in told.defaults):
            yield "L4", node.lineno
        if getattr(node, "decorator_list", []):
            yield "L4", node.lineno
        if getattr(node, "returns", None) or any(arg.annotation for arg in told.args):
            yield "L21", node.lineno


def classes(file):
    own = [node.name for node in file.classes] + file.imported
    for node in file.classes:
        if len(node.bases) > 1 or node.keywords or node.decorator_list:
            yield "L5", node.lineno
        if any(not is_name(base, *own, *ERROR_NAMES) for base in node.bases):
            yield "L5", node.lineno
        if any(is_name(base, "StopIteration", "AttributeError") for base in node.bases):
            yield "L18", node.lineno
        if node not in file.tree.body:
            yield "L15", node.lineno
        names = [part.name for part in node.body if isinstance(part, ast.FunctionDef)]
        if len(names) != len(set(names)):
            yield "L18", node.lineno
        if any(not isinstance(part, (ast.FunctionDef, ast.Pass)) for part in node.body):
            yield "L5", node.lineno
        for part in node.body:
            if isinstance(part, ast.FunctionDef) and part.name == "__init__":
                if any(isinstance(inner, ast.Return) and inner.value for inner in ast.walk(part)):
                    yield "L28", part.lineno


def statements(file):
    for node in file.nodes(ast.stmt):
        if isinstance(node, ast.AnnAssign):
            yield "L21", node.lineno
        elif not isinstance(node, STATEMENTS + (ast.Import,)):
            yield "L6", node.lineno
        elif isinstance(node, (ast.For, ast.While)) and node.orelse:
            yield "L6", node.lineno
        elif isinstance(node, ast.Assign) and len(node.targets) != 1:
            yield "L6", node.lineno
        elif isinstance(node, ast.Try) and node.finalbody:
            yield "L6", node.lineno
        elif isinstance(node, ast.Expr) and not isinstance(node.value, ast.Call) and not is_docstring(file, node):
            yield "L6", node.lineno
        elif isinstance(node, ast.Raise) and not isinstance(node.exc, ast.Call):
            yield "L19", node.lineno
    for node in file.nodes(ast.ExceptHandler):
        if node.type is None or any(is_name(part, "Exception", "TypeError") for part in ast.walk(node.type)):
            yield "L19", node.lineno


def expressions(file):
    for node in file.nodes(ast.expr):
        if not isinstance(node, EXPRESSIONS):
            yield "L7", node.lineno
        elif isinstance(node, ast.Constant) and not isinstance(node.value, (int, str, bool, None.__class__)):
            yield "L7", node.lineno
        elif isinstance(node, ast.BinOp) and isinstance(node.op, (ast.Div, ast.MatMult)):
            yield "L7", node.lineno
        elif isinstance(node, ast.ListComp) and (len(node.generators) > 1 or len(node.generators[0].ifs) > 1):
            yield "L7", node.lineno
        elif isinstance(node, ast.FormattedValue):
            if not isinstance(node.value, ast.Name) or node.format_spec or node.conversion not in (-1, ord("r")):
                yield "L7", node.lineno
        elif isinstance(node, ast.Set) and len(node.elts) > 2 and not isinstance(file.parents[node], ast.Compare):
            yield "L13", node.lineno
    for node in file.nodes(ast.AugAssign):
        if isinstance(node.op, (ast.Div, ast.MatMult)):
            yield "L7", node.lineno
    for node in file.nodes(ast.Compare):
        for op, side in zip(node.ops, node.comparators):
            if isinstance(op, (ast.Is, ast.IsNot)):
                if not any(isinstance(part, ast.Constant) and (part.value is None or isinstance(part.value, bool))
                           for part in (node.left, side)):
                    yield "L20", node.lineno


def numbers_and_texts(file):
    for node in file.nodes(ast.BinOp, ast.AugAssign):
        if isinstance(node.op, ast.Pow):
            power = node.right if isinstance(node, ast.BinOp) else node.value
            if not isinstance(power, ast.Constant) or not 0 <= power.value <= 64:
                yield "L27", node.lineno
    for node in file.nodes(ast.Constant):
        if isinstance(node.value, str) and "%" in node.value:
            yield "L27", node.lineno
    for token in tokenize.generate_tokens(io.StringIO(file.text).readline):
        if token.type == tokenize.STRING and re.search(r"""\\[^nt\\'"\n]""", token.string.replace("\\\\", "")):
            yield "L27", token.start[0]


def bound_names(file):
    for node in ast.walk(file.tree):
        if isinstance(node, (ast.FunctionDef, ast.ClassDef)):
            yield node.name, node
        elif isinstance(node, ast.arg):
            yield node.arg, node
        elif isinstance(node, ast.Name) and isinstance(node.ctx, ast.Store):
            yield node.id, node
        elif isinstance(node, ast.Attribute) and isinstance(node.ctx, ast.Store):
            yield node.attr, node
        elif isinstance(node, ast.ExceptHandler) and node.name:
            yield node.name, node
        elif isinstance(node, ast.alias):
            yield node.asname or node.name, node


def names(file):
    classes_and_imports = [node.name for node in file.classes] + file.imported
    for name, node in bound_names(file):
        if not re.fullmatch("[A-Za-z][A-Za-z0-9_]*", name) and name not in OWN_METHODS + ["__all__", "__version__"]:
            yield "L12", node.lineno
        if name in UNUSED_NAMES:
            yield "L17", node.lineno
        is_method = isinstance(file.parents[node], ast.ClassDef)
        if hasattr(builtins, name) and not is_method and not isinstance(node, ast.Attribute):
            yield "L15", node.lineno
        local = isinstance(node, (ast.arg, ast.ExceptHandler)) or isinstance(node, ast.Name)
        if local and name in classes_and_imports:
            yield "L15", node.lineno
        if isinstance(node, ast.Attribute) and name in VALUES_NOT_SO_CALLED:
            yield "L26", node.lineno
    bound = [name for name, node in bound_names(file)]
    for node in file.nodes(ast.Name):
        if isinstance(node.ctx, ast.Load) and node.id not in bound and node.id not in CALLED_NAMES + ERROR_NAMES:
            yield "L8", node.lineno
    for node in file.nodes(ast.Attribute):
        if node.attr in UNUSED_NAMES:
            yield "L17", node.lineno
        if node.attr.startswith("_") and node.attr not in OWN_METHODS:
            yield "L12", node.lineno


def calls(file, own_methods, own_values):
    for node in file.nodes(ast.Name):
        above = file.parents[node]
        if isinstance(node.ctx, ast.Load) and node.id in CALLED_NAMES:
            called = isinstance(above, ast.Call) and above.func is node
            if not called and not isinstance(above, ast.keyword):
                outer = file.parents[above] if isinstance(above, ast.Tuple) else above
                if not (isinstance(outer, ast.Call) and is_name(outer.func, "isinstance")):
                    yield "L22", node.lineno
    for node in file.nodes(ast.Attribute):
        above = file.parents[node]
        called = isinstance(above, ast.Call) and above.func is node
        if called and node.attr not in METHODS + own_methods + OWN_METHODS:
            yield "L25", node.lineno
        if not called and isinstance(node.ctx, ast.Load) and node.attr not in own_values:
            yield "L25", node.lineno
    for node in file.nodes(ast.Call):
        walked = is_name(node.func, *WALKED)
        if isinstance(node.func, ast.Attribute) and node.func.attr in WALKED_METHODS:
            walked = True
        above = file.parents[node]
        if walked and not (isinstance(above, (ast.For, ast.comprehension)) and above.iter is node):
            if not (isinstance(above, ast.Call) and walks_first(above, node)):
                yield "L23", node.lineno
        if is_name(node.func, "set", "frozenset") and not isinstance(above, (ast.Compare, ast.BinOp)):
            if not (isinstance(above, ast.Call) and is_name(above.func, "sorted", "len")):
                yield "L24", node.lineno


def walks_first(call, node):
    """Whether a call walks what stands in it on the spot: the first thing in it, and in min and max the only one."""
    if is_name(call.func, "min", "max"):
        return call.args == [node]
    return (is_name(call.func, *WALKERS) or is_join(call.func)) and call.args[:1] == [node]


def is_join(node):
    return isinstance(node, ast.Attribute) and node.attr == "join" and isinstance(node.value, ast.Constant)


def nothing_kept_at_the_top(file):
    kept = [node.targets[0].id for node in file.tree.body if isinstance(node, ast.Assign)
            and isinstance(node.value, (ast.List, ast.Dict)) and isinstance(node.targets[0], ast.Name)]
    for node in file.nodes(ast.Attribute):
        if is_name(node.value, *kept) and node.attr in CHANGING:
            yield "L15", node.lineno
    for node in file.nodes(ast.Subscript):
        if is_name(node.value, *kept) and isinstance(node.ctx, ast.Store):
            yield "L15", node.lineno
    for node in file.nodes(ast.Return, ast.AugAssign):
        if is_name(node.value if isinstance(node, ast.Return) else node.target, *kept):
            yield "L15", node.lineno


def changed_while_walked(file):
    for loop in file.nodes(ast.For):
        walked = loop.iter
        while isinstance(walked, ast.Call):
            inner = walked.func.value if isinstance(walked.func, ast.Attribute) else (walked.args or [None])[0]
            if is_name(walked.func, "list", "tuple", "dict", "sorted", "range"):
                inner = None
            walked = inner
        if isinstance(walked, (ast.Name, ast.Attribute)):
            told = ast.unparse(walked)
            for node in [part for line in loop.body for part in ast.walk(line)]:
                changes = isinstance(node, ast.Attribute) and node.attr in CHANGING
                stores = isinstance(node, ast.Subscript) and isinstance(node.ctx, ast.Store)
                if (changes or stores) and ast.unparse(node.value) == told:
                    yield "L23", node.lineno


def lambdas_on_one_line(file):
    seen = []
    for node in file.nodes(ast.Lambda):
        told = (node.lineno, [arg.arg for arg in node.args.args])
        if told in seen:
            yield "L13", node.lineno
        seen.append(told)


def tops_handed_on(file):
    """A list or dict of the file's top is only read: each place where its name stands is one that reads."""
    kept = [node.targets[0].id for node in file.tree.body if isinstance(node, ast.Assign)
            and isinstance(node.value, (ast.List, ast.Dict)) and isinstance(node.targets[0], ast.Name)]
    for node in file.nodes(ast.Name):
        if node.id not in kept or not isinstance(node.ctx, ast.Load):
            continue
        above = file.parents[node]
        reads = (isinstance(above, ast.Subscript) and above.value is node or isinstance(above, ast.Compare)
                 or isinstance(above, (ast.For, ast.comprehension)) and above.iter is node
                 or isinstance(above, ast.Call) and is_name(above.func, *READERS)
                 or isinstance(above, ast.Attribute) and above.attr in READING)
        if not reads:
            yield "L15", node.lineno


def use_of_classes(file, own_classes):
    for node in file.nodes(ast.Name):
        if node.id not in own_classes or not isinstance(node.ctx, ast.Load):
            continue
        above = file.parents[node]
        outer = file.parents[above] if isinstance(above, ast.Tuple) else above
        fits = (isinstance(above, ast.Call) and above.func is node or isinstance(above, (ast.ClassDef, ast.Raise))
                or isinstance(outer, ast.ExceptHandler)
                or isinstance(outer, ast.Call) and is_name(outer.func, "isinstance")
                or isinstance(above, ast.Attribute) and above.attr == "__init__")
        if not fits:
            yield "L18", node.lineno
    for node in file.nodes(ast.Attribute):
        if isinstance(node.ctx, ast.Store) and is_name(node.value, *own_classes, *file.tops, *file.imported):
            yield "L18", node.lineno


def handlers(file):
    """ValueError and LookupError are taken round int, str, index and remove alone, IndexError round an index alone."""
    for node in file.nodes(ast.Try):
        taken = [part.id for handler in node.handlers if handler.type for part in ast.walk(handler.type)
                 if isinstance(part, ast.Name)]
        calls_allowed = ("int", "str") if "ValueError" in taken or "LookupError" in taken else ()
        if not calls_allowed and "IndexError" not in taken:
            continue
        for part in [inner for line in node.body for inner in ast.walk(line)]:
            if isinstance(part, (ast.JoinedStr, ast.Slice, ast.Lambda)):
                yield "L19", part.lineno if hasattr(part, "lineno") else node.lineno
            elif isinstance(part, ast.Call) and not is_name(part.func, *calls_allowed):
                called = part.func.attr if isinstance(part.func, ast.Attribute) else ""
                if not calls_allowed or called not in ("index", "remove"):
                    yield "L19", part.lineno
            elif isinstance(part, ast.BinOp):
                if isinstance(part.op, (ast.Mult, ast.Pow, ast.Mod, ast.LShift, ast.RShift)):
                    yield "L19", part.lineno
    for node in file.nodes(ast.Raise):
        if node.cause is not None:
            above = file.parents[node]
            while not isinstance(above, (ast.ExceptHandler, ast.Module)):
                above = file.parents[above]
            if not (isinstance(node.cause, ast.Constant) and node.cause.value is None):
                if not (isinstance(above, ast.ExceptHandler) and is_name(node.cause, above.name)):
                    yield "L19", node.lineno


def keywords(file, own_classes):
    for node in file.nodes(ast.Call):
        called = node.func.id if isinstance(node.func, ast.Name) else None
        if called == "isinstance":
            kinds = node.args[1].elts if isinstance(node.args[1], ast.Tuple) else [node.args[1]]
            if not all(is_name(kind, *KINDS_ASKED, *own_classes) for kind in kinds):
                yield "L22", node.lineno
        pythons_own = called in CALLED_NAMES + ERROR_NAMES
        if isinstance(node.func, ast.Attribute) and node.func.attr in METHODS:
            pythons_own = True
        for word in node.keywords:
            if pythons_own and word.arg not in KEYWORDS.get(called, ()):
                yield "L22", node.lineno
            elif pythons_own and word.arg in ("reverse", "strict"):
                if not (isinstance(word.value, ast.Constant) and isinstance(word.value.value, bool)):
                    yield "L22", node.lineno
            elif pythons_own and word.arg == "key" and is_name(word.value, *CALLED_NAMES):
                if word.value.id not in KEYS:
                    yield "L22", node.lineno


def sets_kept(file):
    for node in file.nodes(ast.Call):
        if not is_name(node.func, "set", "frozenset"):
            continue
        above = file.parents[node]
        while isinstance(above, ast.BinOp) and isinstance(above.op, (ast.Sub, ast.BitAnd, ast.BitOr, ast.BitXor)):
            above = file.parents[above]
        sized = isinstance(above, ast.Call) and is_name(above.func, "sorted", "len") and not above.keywords
        if not sized and not isinstance(above, ast.Compare):
            yield "L24", node.lineno
    for node in file.nodes(ast.Set):
        if not isinstance(file.parents[node], ast.Compare):
            yield "L24", node.lineno


def names_of_pythons_values(file):
    for owner in file.classes:
        for part in owner.body:
            if isinstance(part, ast.FunctionDef) and part.name not in METHODS + OWN_METHODS + ["add", "discard"]:
                if part.name in NAMES_OF_PYTHONS_VALUES:
                    yield "L26", part.lineno
    for node in file.nodes(ast.Attribute):
        if isinstance(node.ctx, ast.Store) and node.attr not in VALUES_SO_CALLED:
            if node.attr in NAMES_OF_PYTHONS_VALUES:
                yield "L26", node.lineno


def names_not_used(file):
    for name, node in bound_names(file):
        if name in NAMES_NOT_GIVEN or FRAME_NAMES.fullmatch(name):
            yield "L17", node.lineno
    for node in file.nodes(ast.Attribute):
        if FRAME_NAMES.fullmatch(node.attr):
            yield "L17", node.lineno


def methods_that_show(file):
    for owner in file.classes:
        for part in owner.body:
            if not isinstance(part, ast.FunctionDef) or part.name not in OWN_METHODS[1:]:
                continue
            for node in ast.walk(part):
                stores = isinstance(node, ast.Attribute) and isinstance(node.ctx, ast.Store)
                changes = isinstance(node, ast.Attribute) and node.attr in CHANGING
                if stores or changes or isinstance(node, ast.AugAssign):
                    yield "L28", node.lineno
                if isinstance(node, ast.Return) and part.name in ("__repr__", "__str__"):
                    shown = node.value.func if isinstance(node.value, ast.Call) else None
                    text = isinstance(node.value, ast.Constant) and isinstance(node.value.value, str)
                    if not (text or isinstance(node.value, ast.JoinedStr) or is_name(shown, "str", "repr")
                            or is_join(shown)):
                        yield "L28", node.lineno
                if isinstance(node, ast.Return) and part.name == "__len__":
                    if not (isinstance(node.value, ast.Constant)
                            or isinstance(node.value, ast.Call) and is_name(node.value.func, "len")):
                        yield "L28", node.lineno


def long_numbers(file):
    for number, line in enumerate(file.text.split("\n"), 1):
        if re.search("[0-9]{901}", line.replace("_", "")):
            yield "L27", number


def package_faults(texts):
    """The rules broken by a package, told as a dict from file names to texts: triples of rule, file and line."""
    files = [File(name, text) for name, text in texts.items()]
    own_methods = [part.name for file in files for node in file.classes for part in node.body
                   if isinstance(part, ast.FunctionDef)]
    own_values = [node.attr for file in files for node in file.nodes(ast.Attribute) if isinstance(node.ctx, ast.Store)]
    own_classes = [node.name for file in files for node in file.classes]
    found = list(drawn_in_a_ring(files))
    found += [("L16", file.name, 1) for file in files if file.name == "__init__.py"
              for name in file.tops + file.imported if name + ".py" in texts]
    found += [("L18", "", 0) for name in own_methods if name in own_values]
    for file in files:
        for rule in (signs_and_size, file_name, top_of_module, functions, classes, statements, expressions,
                     numbers_and_texts, names, nothing_kept_at_the_top, changed_while_walked, lambdas_on_one_line,
                     tops_handed_on, handlers, sets_kept, names_of_pythons_values, names_not_used, methods_that_show,
                     long_numbers):
            found += [(number, file.name, line) for number, line in rule(file)]
        found += [(number, file.name, line) for number, line in imports(file, files)]
        found += [(number, file.name, line) for number, line in calls(file, own_methods, own_values)]
        found += [(number, file.name, line) for number, line in use_of_classes(file, own_classes)]
        found += [(number, file.name, line) for number, line in keywords(file, own_classes)]
    return found


def parts_of_package():
    return sorted(path for path in PACKAGE.rglob("*") if "__pycache__" not in path.parts)


class Package(unittest.TestCase):
    def test_it_keeps_to_the_rules(self):
        texts = {path.name: path.read_text(encoding="utf-8") for path in parts_of_package() if path.suffix == ".py"}
        self.assertLessEqual(FILES, set(texts))
        self.assertEqual(package_faults(texts), [])

    def test_nothing_else_lies_in_it(self):
        for path in parts_of_package():
            self.assertEqual((path.suffix, path.parent, path.is_file()), (".py", PACKAGE, True))
        self.assertTrue((PACKAGE / "__init__.py").is_file())


GOOD = """"Words."

from turncoins.other import Refused

SIZES = (1, 2)
NAMES = {"a": (1, 2), "b": ()}


class Box:
    def __init__(self, many):
        self.many = many

    def doubled(self):
        return self.many * 2


def told(numbers, least=0):
    if not isinstance(numbers, list) or len(numbers) not in SIZES:
        raise Refused(f"no numbers: {numbers!r}")
    kept = {}
    for at, number in enumerate(numbers):
        kept[at] = number ** 2 if number > least else -number
    try:
        found = NAMES["a"]
    except KeyError:
        return None
    try:
        first = int(found[0])
    except ValueError as e:
        raise Refused("no figure") from e
    if len(set(numbers) - set(found)) == first and set(found) == set(numbers) and isinstance(found, (tuple, Box)):
        return sorted(numbers, key=lambda number: -number, reverse=True)
    return ["-".join([str(number) for number in found if number]), sorted(set(numbers)), list(kept.items())]
"""
OTHER = "class Refused(ValueError):\n    pass\n"

BROKEN = (
    ("L2", "import os\n"),
    ("L2", "from math import gcd\n"),
    ("L2", "from . import other\n"),
    ("L2", "from turncoins.other import *\n"),
    ("L2", "def f():\n    from turncoins.other import Refused\n    return Refused(1)\n"),
    ("L2", "A = 1\nfrom turncoins.other import Refused\n"),
    ("L3", "print_it = len([1])\n"),
    ("L3", "if True:\n    pass\n"),
    ("L4", "def f(*more):\n    return more\n"),
    ("L4", "def f(**more):\n    return more\n"),
    ("L4", "def f(*, a):\n    return a\n"),
    ("L4", "def g(h):\n    return h\n\n\n@g\ndef f():\n    return 1\n"),
    ("L5", "class A:\n    size = 1\n"),
    ("L5", "class A:\n    pass\n\n\nclass B:\n    pass\n\n\nclass C(A, B):\n    pass\n"),
    ("L6", "def f(a):\n    assert a\n"),
    ("L6", "def f(a):\n    del a[0]\n"),
    ("L6", "def f():\n    a = b = 1\n    return a + b\n"),
    ("L6", "def f(a):\n    for b in a:\n        pass\n    else:\n        return 1\n"),
    ("L6", "def f():\n    global a\n    a = 1\n"),
    ("L6", "def f(a):\n    with a:\n        pass\n"),
    ("L6", "def f():\n    'words'\n"),
    ("L6", "def f(a):\n    try:\n        return a\n    finally:\n        return 1\n"),
    ("L7", "def f(a):\n    return a / 2\n"),
    ("L7", "A = 1.5\n"),
    ("L7", "A = b'a'\n"),
    ("L7", "def f(a):\n    return {b: 1 for b in a}\n"),
    ("L7", "def f(a):\n    return any(b > 1 for b in a)\n"),
    ("L7", "def f(a):\n    return [b for c in a for b in c]\n"),
    ("L7", "def f(a):\n    return [*a]\n"),
    ("L7", "def f(a):\n    return f'{a:3}'\n"),
    ("L7", "def f(a):\n    return f'{a + 1}'\n"),
    ("L7", "def f(a):\n    if (b := a):\n        return b\n"),
    ("L8", "def f(a):\n    return pow(a, 2)\n"),
    ("L8", "def f(a):\n    print(a)\n"),
    ("L8", "def f(a):\n    return chr(a)\n"),
    ("L10", "def f(a):\n" + "    a = a + 1\n" * 39 + "    return a\n"),
    ("L10", "# words\n" * 401),
    ("L10", "# " + "w" * 119 + "\n"),
    ("L12", "def f(a):\n    return [0 for _ in a]\n"),
    ("L12", "def _f(a):\n    return a\n"),
    ("L12", "_A = 1\n"),
    ("L12", "def f(a):\n    return a.__dict__\n"),
    ("L13", "def f():\n    a = {1, 2, 3}\n    return len(a)\n"),
    ("L13", "def f(a):\n    return [lambda b: a, lambda b: b]\n"),
    ("L14", "# \u00e9\n"),
    ("L14", "def f():\n\treturn 1\n"),
    ("L15", "A = 1\nA = 2\n"),
    ("L15", "def f(a):\n    return a\n\n\ndef f(b):\n    return b\n"),
    ("L15", "A = [[1], [2]]\n"),
    ("L15", "A = []\n\n\ndef f(b):\n    A.append(b)\n"),
    ("L15", "A = {}\n\n\ndef f(b):\n    A[b] = 1\n"),
    ("L15", "A = [1]\n\n\ndef f():\n    return A\n"),
    ("L15", "A = [1]\n\n\ndef g(b):\n    return b\n\n\ndef f():\n    return g(A)\n"),
    ("L15", "A = {}\n\n\ndef f():\n    b = A\n    return len(b)\n"),
    ("L15", "A = [1]\n\n\ndef f(b):\n    return (b, A)\n"),
    ("L15", "def f(id):\n    return 1\n"),
    ("L15", "def f(a):\n    max = a\n    return max\n"),
    ("L16", "from turncoins.other import Nothing\n"),
    ("L16", "from turncoins.nowhere import Refused\n"),
    ("L17", "# the type of it\n"),
    ("L17", "def f(a):\n    return a.elements\n"),
    ("L17", "def f(os):\n    return os\n"),
    ("L17", "def f(a):\n    return a.tb_frame\n"),
    ("L18", "class A:\n    pass\n\n\ndef f():\n    return [A]\n"),
    ("L18", "class A:\n    pass\n\n\ndef f(a):\n    A.many = a\n"),
    ("L18", "class A:\n    def b(self):\n        return 1\n\n    def b(self):\n        return 2\n"),
    ("L18", "class A:\n    def b(self):\n        return 1\n\n\n"
            "class C:\n    def __init__(self):\n        self.b = 1\n"),
    ("L19", "def f(a):\n    try:\n        return a[0]\n    except Exception:\n        return 1\n"),
    ("L19", "def f(a):\n    try:\n        return a[0]\n    except:\n        return 1\n"),
    ("L19", "def f():\n    raise ValueError\n"),
    ("L19", "def g(a):\n    return a\n\n\ndef f(a):\n    try:\n        return g(a)\n    except ValueError:\n"
            "        return 1\n"),
    ("L19", "def f(a):\n    try:\n        return a[0] * 2\n    except IndexError:\n        return 1\n"),
    ("L19", "def f(a, b):\n    try:\n        return a[0]\n    except KeyError:\n        raise ValueError(1) from b\n"),
    ("L20", "def f(a, b):\n    return a is b\n"),
    ("L21", "def f(a: int):\n    return a\n"),
    ("L21", "def f(a):\n    b: int = a\n    return b\n"),
    ("L22", "def f():\n    return len\n"),
    ("L22", "def f(a):\n    return sorted(a, key=repr)\n"),
    ("L22", "def f(a, b):\n    return sorted(a, reverse=b)\n"),
    ("L22", "def f(a):\n    return int(a, base=2)\n"),
    ("L22", "def f(a):\n    return a.split(sep=',')\n"),
    ("L22", "def f(a, b):\n    return isinstance(a, b)\n"),
    ("L23", "def f(a):\n    b = zip(a, a)\n    return list(b)\n"),
    ("L23", "def f(a):\n    b = a.items()\n    return list(b)\n"),
    ("L23", "def f(a):\n    for b in a:\n        a.append(b)\n"),
    ("L23", "def f(a):\n    for b, c in enumerate(a):\n        a[b] = c\n"),
    ("L23", "def f(a):\n    return max(range(a), a)\n"),
    ("L23", "def f(a):\n    return sum(a, range(3))\n"),
    ("L23", "class A:\n    def __init__(self):\n        self.kept = {}\n\n"
            "    def f(self):\n        for a in self.kept:\n            self.kept.pop(a)\n"),
    ("L23", "class A:\n    def __init__(self):\n        self.kept = {}\n\n"
            "    def f(self):\n        for a, b in self.kept.items():\n            self.kept[a] = 1\n"),
    ("L24", "def f():\n    a = {1, 2}\n    return len(a)\n"),
    ("L24", "def f():\n    return [a for a in {1, 2}]\n"),
    ("L24", "def f(a):\n    b = set(a)\n    return len(b)\n"),
    ("L24", "def f(a, b):\n    c = set(a) - set(b)\n    return len(c)\n"),
    ("L24", "def f(a):\n    return sorted(set(a), key=len)\n"),
    ("L25", "def f(a):\n    a.sort()\n"),
    ("L25", "def f(a):\n    return a.isprintable()\n"),
    ("L26", "def f(a):\n    a.values = 1\n"),
    ("L26", "def f(a):\n    a.real = 1\n"),
    ("L26", "class A:\n    def casefold(self):\n        return 1\n"),
    ("L27", "A = " + "1" * 901 + "\n"),
    ("L27", "def f(n):\n    return 2 ** n\n"),
    ("L27", "def f():\n    return 2 ** 65\n"),
    ("L27", "def f():\n    return 'a%b'\n"),
    ("L27", "def f():\n    return '\\x41'\n"),
    ("L28", "class A:\n    def __init__(self):\n        return None\n"),
    ("L28", "class A:\n    def __eq__(self, other):\n        self.many = 1\n        return True\n"),
    ("L28", "class A:\n    def __len__(self):\n        return self.many + 1\n"),
    ("L28", "class A:\n    def __repr__(self):\n        return self.name\n"),
    ("L28", "class A:\n    def __str__(self):\n        return 'a' + 'b'\n"),
)


class Checker(unittest.TestCase):
    """A checker that sees nothing would let everything pass, so it is tried on rules broken one by one."""

    def rules(self, text, name="plain.py"):
        return [rule for rule, file, line in package_faults({"other.py": OTHER, name: text})]

    def test_good_text_passes(self):
        self.assertEqual(package_faults({"plain.py": GOOD, "other.py": OTHER}), [])

    def test_each_broken_rule_is_seen(self):
        for rule, text in BROKEN:
            with self.subTest(rule, text=text):
                self.assertIn(rule, self.rules(text))

    def test_file_names(self):
        for name in ("Plain.py", "a-b.py"):
            self.assertIn("L1", self.rules(OTHER, name))
        for name in ("test.py", "len.py", "test_a.py", "enum.py"):
            self.assertIn("L14", self.rules(OTHER, name))
        self.assertIn("L12", self.rules(OTHER, "_plain.py"))

    def test_names_of_the_package_itself(self):
        self.assertIn("L16", self.rules("other = 1\n", "__init__.py"))
        self.assertNotIn("L16", self.rules("others = 1\n", "__init__.py"))

    def test_files_that_draw_from_one_another(self):
        one = "from turncoins.b import g\n\n\ndef f():\n    return g()\n"
        other = "from turncoins.a import f\n\n\ndef g():\n    return f()\n"
        self.assertIn("L16", [rule for rule, file, line in package_faults({"a.py": one, "b.py": other})])


if __name__ == "__main__":
    unittest.main()
