"""The form of the package's files: the rules of LANGUAGE.md (L1 to L28), as far as a reader of the tree sees them."""

import ast
import builtins
import pathlib
import re
import unittest

ROOT = pathlib.Path(__file__).resolve().parent.parent
PACKAGE = ROOT / "sharewheel"

ERRORS = set(
    "Exception ValueError TypeError KeyError IndexError LookupError ZeroDivisionError ArithmeticError "
    "OverflowError RuntimeError NotImplementedError AttributeError StopIteration".split()
)
CALLS = set(
    "len range enumerate zip min max sum abs sorted reversed int str bool list tuple dict set frozenset "
    "isinstance ord repr any all divmod".split()
)
METHODS = set(
    "append clear copy count endswith extend find get index insert isalnum isalpha isdigit islower isspace isupper "
    "items join keys ljust lower lstrip partition pop remove replace reverse rfind rjust rpartition rsplit rstrip "
    "setdefault split splitlines startswith strip update upper values zfill bit_length add discard title".split()
)
DUNDERS = {"__init__", "__eq__", "__repr__", "__str__", "__len__"}
BUILT_IN = set(dir(builtins))
PYTHONS_METHODS = {name for kind in (str, int, list, tuple, dict, set, bytes) for name in dir(kind)} - METHODS - DUNDERS
NEVER = set("register mro elements open input version_info with_traceback add_note format format_map chr args".split())
NOT_AS_NAMES = set(
    "attrgetter breakpoint builtins compile copyright credits delattr dir eval exec exit gc getattr globals hasattr "
    "help id importlib license locals methodcaller os quit setattr super type vars sys".split()
)
NO_FILE = set("test tests testing site conftest sitecustomize usercustomize typing enum".split()) | BUILT_IN
WORDS = re.compile(
    r"\b(type|typing|typing_extensions|enum|Enum|IntEnum|StrEnum|Flag|IntFlag|Generic|Protocol|ABC|ABCMeta|namedtuple"
    r"|NamedTuple|TypedDict|TYPE_CHECKING|abstractmethod)\b|dataclass|overload|contextmanager"
)
PLAIN_NAME = re.compile(r"[A-Za-z][A-Za-z0-9_]*")
NODES = tuple(
    getattr(ast, name) for name in (
        "Module FunctionDef ClassDef Return Assign AugAssign For While If Raise Try ImportFrom Expr Pass Break "
        "Continue BoolOp BinOp UnaryOp Lambda IfExp Dict Set ListComp Compare Call FormattedValue JoinedStr Constant "
        "Attribute "
        "Subscript Name List Tuple Slice comprehension ExceptHandler arguments arg keyword alias expr_context boolop "
        "operator unaryop cmpop"
    ).split()
)
READING = {"get", "index", "count", "items", "keys", "values", "copy"}
COPYING = {"len", "list", "tuple", "dict", "sorted", "sum", "min", "max", "any", "all", "enumerate", "zip", "reversed"}
WALKED = {"zip", "enumerate", "reversed", "range"}
KEYWORDS = {
    "sorted": {"key", "reverse"}, "min": {"key", "default"}, "max": {"key", "default"},
    "sum": {"start"}, "enumerate": {"start"}, "zip": {"strict"},
}


def is_text(statement):
    return (
        isinstance(statement, ast.Expr)
        and isinstance(statement.value, ast.Constant)
        and isinstance(statement.value.value, str)
    )


def is_plain(value):
    if isinstance(value, ast.UnaryOp):
        return isinstance(value.op, ast.USub) and is_plain(value.operand)
    if isinstance(value, (ast.List, ast.Tuple)):
        return all(is_plain(part) for part in value.elts)
    if isinstance(value, ast.Dict):
        return all(part is not None and is_plain(part) for part in value.keys + value.values)
    return isinstance(value, (ast.Constant, ast.Name))


def text_faults(source):
    rows = source.split("\n")
    if len(rows) > 401:
        yield "L10 the file has over 400 lines"
    for number, row in enumerate(rows, start=1):
        if len(row) > 120:
            yield f"L10 line {number} has over 120 signs"
        if re.search(r"[^ -~]", row):
            yield f"L14 line {number} has a sign that is not from the blank to the tilde"
        if WORDS.search(row):
            yield f"L17 line {number} has a word that stands nowhere"


def top_faults(tree):
    bound = []
    for place, statement in enumerate(tree.body):
        if isinstance(statement, (ast.FunctionDef, ast.ClassDef)):
            bound.append(statement.name)
        elif isinstance(statement, ast.ImportFrom):
            bound.extend(part.name for part in statement.names)
        elif isinstance(statement, ast.Assign) and isinstance(statement.targets[0], ast.Name):
            bound.append(statement.targets[0].id)
            if not is_plain(statement.value):
                yield f"L3 line {statement.lineno}: no plain value"
        elif place != 0 or not is_text(statement):
            yield f"L3 line {statement.lineno}: not for the top of a file"
    for name in sorted(set(bound)):
        if bound.count(name) > 1:
            yield f"L15 {name} is bound more than once"
    for inner in ast.walk(tree):
        if isinstance(inner, ast.ImportFrom) and inner not in tree.body:
            yield f"L2 line {inner.lineno}: an import below the top"
        if isinstance(inner, ast.ClassDef) and inner not in tree.body:
            yield f"L15 line {inner.lineno}: a class below the top"


def shadow_faults(tree):
    taken = [part.name for part in tree.body if isinstance(part, ast.ClassDef)]
    for row in tree.body:
        if isinstance(row, ast.ImportFrom):
            taken.extend(part.name for part in row.names)
    for node in ast.walk(tree):
        local = isinstance(node, ast.Name) and isinstance(node.ctx, ast.Store) and node.id
        name = node.arg if isinstance(node, ast.arg) else local
        if name in taken:
            yield f"L15 line {node.lineno}: {name} is a class or an import of the file"


def def_faults(node):
    given = node.args
    if given.vararg or given.kwarg or given.kwonlyargs or given.posonlyargs:
        yield "L4 parameters that are not plain"
    if not all(is_plain(value) for value in given.defaults):
        yield "L4 a default that is no plain value"
    for part in given.args:
        if part.annotation is not None:
            yield "L21 an annotation"
        if not PLAIN_NAME.fullmatch(part.arg) or part.arg in BUILT_IN:
            yield f"L15 a parameter {part.arg}"
    if isinstance(node, ast.FunctionDef):
        if node.decorator_list or node.returns is not None:
            yield "L4 a decorator or an annotation"
        if node.end_lineno - node.lineno + 1 > 40:
            yield "L10 a function of over 40 lines"


def class_faults(node):
    if node.decorator_list or node.keywords or len(node.bases) > 1:
        yield "L5 a decorator, or more than one base"
    for part in node.body:
        if isinstance(part, ast.FunctionDef):
            if not PLAIN_NAME.fullmatch(part.name) and part.name not in DUNDERS:
                yield f"L5 a method {part.name}"
            if part.name in PYTHONS_METHODS | NEVER:
                yield f"L26 a method {part.name}"
        elif not isinstance(part, ast.Pass):
            yield "L5 a value in the class body"


def name_faults(node):
    if isinstance(node.ctx, ast.Load):
        if node.id in BUILT_IN - CALLS - ERRORS:
            yield f"L8 {node.id}"
    elif node.id in BUILT_IN:
        yield f"L15 {node.id} given another meaning"
    if node.id in NEVER | NOT_AS_NAMES or not PLAIN_NAME.fullmatch(node.id):
        yield f"L12, L17 the name {node.id}"


def expression_faults(node):
    if isinstance(node, ast.Attribute):
        if node.attr in NEVER | PYTHONS_METHODS or re.match(r"(f|tb|co|gi|cr)_", node.attr):
            yield f"L17, L25, L26 {node.attr}"
        if not PLAIN_NAME.fullmatch(node.attr) and node.attr != "__init__":
            yield f"L12 {node.attr}"
    elif isinstance(node, ast.Constant):
        if not (node.value is None or type(node.value) in (int, str, bool)):
            yield "L7 a float, bytes or the like"
        if isinstance(node.value, str) and "%" in node.value:
            yield "L27 the sign % within a text"
    elif isinstance(node, ast.BinOp) and isinstance(node.op, (ast.Div, ast.MatMult)):
        yield "L7 a / or @"
    elif isinstance(node, ast.BinOp) and isinstance(node.op, ast.Pow):
        if not (isinstance(node.right, ast.Constant) and 0 <= node.right.value <= 64):
            yield "L27 an exponent that is not written"
    elif isinstance(node, ast.ListComp):
        if len(node.generators) != 1 or len(node.generators[0].ifs) > 1:
            yield "L7 a comprehension with more than one for or if"
    elif isinstance(node, ast.FormattedValue):
        plain = isinstance(node.value, ast.Name) and node.format_spec is None
        if not plain or node.conversion not in (-1, ord("r")):
            yield "L7 an f-string with more than a name"
    elif isinstance(node, ast.Compare):
        for op, right in zip(node.ops, node.comparators):
            beside = isinstance(right, ast.Constant) and (right.value is None or isinstance(right.value, bool))
            if isinstance(op, (ast.Is, ast.IsNot)) and not beside:
                yield "L20 is beside something else"
    elif isinstance(node, ast.Call) and isinstance(node.func, ast.Name) and node.func.id in CALLS | ERRORS:
        if any(part.arg not in KEYWORDS.get(node.func.id, ()) for part in node.keywords):
            yield f"L22 a keyword at {node.func.id}"


def statement_faults(node):
    if isinstance(node, ast.Assign):
        if len(node.targets) != 1:
            yield "L6 more than one target"
        if isinstance(node.value, ast.Call) and isinstance(node.value.func, ast.Name) and node.value.func.id in WALKED:
            yield f"L23 {node.value.func.id} kept"
        if isinstance(node.value, ast.Set):
            yield "L24 a set kept"
    elif isinstance(node, (ast.For, ast.While)) and node.orelse:
        yield "L6 an else behind a loop"
    elif isinstance(node, ast.Try) and node.finalbody:
        yield "L6 a finally"
    elif isinstance(node, ast.ExceptHandler):
        if node.type is None or any(part in ast.dump(node.type) for part in ("'Exception'", "'TypeError'")):
            yield "L19 a handler for too much"
    elif isinstance(node, ast.Raise) and not isinstance(node.exc, ast.Call):
        yield "L19 an error not made on the spot"
    elif isinstance(node, ast.Expr) and not isinstance(node.value, ast.Call) and not is_text(node):
        yield "L6 a value by itself"
    elif isinstance(node, ast.ImportFrom):
        whole = node.level == 0 and re.fullmatch(r"sharewheel\.[a-z_]+", node.module)
        if not whole or any(part.name == "*" for part in node.names):
            yield "L2 an import that is not of the package's own, by its full name"


def kept_faults(tree):
    """What a list or dict of the file's top is not used for, and methods that are not called where they stand."""
    kept = set()
    for row in tree.body:
        if isinstance(row, ast.Assign) and isinstance(row.value, (ast.List, ast.Dict)):
            kept.add(row.targets[0].id)
            if any(isinstance(part, (ast.List, ast.Dict)) for part in ast.walk(row.value) if part is not row.value):
                yield f"L15 line {row.lineno}: a list or dict within a list or dict"
    called = [node.func for node in ast.walk(tree) if isinstance(node, ast.Call)]
    read = [node.value for node in ast.walk(tree) if isinstance(node, ast.Subscript) and isinstance(node.ctx, ast.Load)]
    read += [part for node in ast.walk(tree) if isinstance(node, ast.Compare) for part in node.comparators]
    read += [node.iter for node in ast.walk(tree) if isinstance(node, (ast.For, ast.comprehension))]
    read += [node.value for node in called if isinstance(node, ast.Attribute) and node.attr in READING]
    for node in ast.walk(tree):
        if isinstance(node, ast.Call) and isinstance(node.func, ast.Name) and node.func.id in COPYING:
            read += node.args
    for node in ast.walk(tree):
        if isinstance(node, ast.Name) and isinstance(node.ctx, ast.Load) and node.id in kept and node not in read:
            yield f"L15 line {node.lineno}: {node.id} is not only read"
        if isinstance(node, ast.Attribute) and node.attr in METHODS and node not in called:
            yield f"L25 line {node.lineno}: {node.attr} is not called"


def faults(source):
    found = list(text_faults(source))
    tree = ast.parse(source)
    found.extend(top_faults(tree))
    found.extend(shadow_faults(tree))
    found.extend(kept_faults(tree))
    for node in ast.walk(tree):
        if not isinstance(node, NODES):
            inner = [f"L6, L7 {type(node).__name__}"]
        elif isinstance(node, (ast.FunctionDef, ast.Lambda)):
            inner = list(def_faults(node))
        elif isinstance(node, ast.ClassDef):
            inner = list(class_faults(node))
        elif isinstance(node, ast.Name):
            inner = list(name_faults(node))
        else:
            inner = list(expression_faults(node)) + list(statement_faults(node))
        found.extend(f"{fault} (line {getattr(node, 'lineno', '?')})" for fault in inner)
    return found


def package_files():
    return sorted(path for path in PACKAGE.rglob("*") if "__pycache__" not in path.parts)


def drawn_from(path):
    tree = ast.parse(path.read_text(encoding="utf-8"))
    return [part for part in tree.body if isinstance(part, ast.ImportFrom)]


class Files(unittest.TestCase):
    def test_only_plain_python_files(self):
        names = [path.name for path in package_files()]
        self.assertIn("__init__.py", names)
        for path in package_files():
            with self.subTest(path.name):
                self.assertTrue(path.is_file())
                self.assertRegex(path.name, r"\A([a-z][a-z0-9_]*|__init__)\.py\Z")
                self.assertNotIn(path.stem, NO_FILE)
                self.assertFalse(path.stem.startswith("test_"))

    def test_every_file_keeps_the_rules(self):
        for path in package_files():
            with self.subTest(path.name):
                self.assertEqual(faults(path.read_text(encoding="utf-8")), [])

    def test_names_are_drawn_from_the_file_that_defines_them(self):
        for path in package_files():
            for row in drawn_from(path):
                source = (PACKAGE / (row.module.split(".")[1] + ".py")).read_text(encoding="utf-8")
                top = ast.parse(source).body
                defined = [part.name for part in top if isinstance(part, (ast.FunctionDef, ast.ClassDef))]
                defined += [part.targets[0].id for part in top if isinstance(part, ast.Assign)]
                for part in row.names:
                    with self.subTest(path=path.name, name=part.name):
                        self.assertIn(part.name, defined)

    def test_no_two_files_draw_from_one_another(self):
        draws = {path.stem: {row.module.split(".")[1] for row in drawn_from(path)} for path in package_files()}
        while draws:
            free = [name for name, needs in draws.items() if not needs & set(draws)]
            self.assertTrue(free, f"a ring among {sorted(draws)}")
            draws = {name: needs for name, needs in draws.items() if name not in free}

    def test_no_name_is_a_method_and_a_value(self):
        methods = set()
        values = set()
        called = set()
        attributes = []
        for path in package_files():
            for node in ast.walk(ast.parse(path.read_text(encoding="utf-8"))):
                if isinstance(node, ast.ClassDef):
                    methods.update(part.name for part in node.body if isinstance(part, ast.FunctionDef))
                if isinstance(node, ast.Attribute) and isinstance(node.ctx, ast.Store):
                    values.add(node.attr)
                if isinstance(node, ast.Call):
                    called.add(node.func)
                if isinstance(node, ast.Attribute):
                    attributes.append((path.name, node))
        self.assertEqual(methods & values, set())
        # A method is called where it stands (L25).
        for name, node in attributes:
            if node.attr in methods:
                self.assertIn(node, called, f"{name} line {node.lineno}")


class TheReader(unittest.TestCase):
    def test_good_form_passes(self):
        for source in (
            '"""Words."""\n\nfrom sharewheel.errors import NoRatio\n\nMOST = (1, -2)\n',
            "def double(one, other=None):\n    return [part * 2 for part in one if part is not None]\n",
            "class Own(ValueError):\n    def __init__(self, place):\n        self.place = place\n",
            "def one():\n    return 1\n\nSOME = {1: one}\n\ndef two(key):\n    return SOME[key]() + SOME.get(key, one)()\n",
            "SOME = [1]\n\n\ndef one():\n    return list(SOME) + [part for part in SOME] + [len(SOME)]\n",
        ):
            with self.subTest(source):
                self.assertEqual(faults(source), [])

    def test_bad_form_is_found(self):
        for source in (
            "import os\n", "from os import path\n", "from sharewheel.errors import *\n", "MOST = len([])\n",
            "MOST = 1\nMOST = 2\n", "def one(*two):\n    pass\n", "def one(two: int):\n    pass\n",
            "def one(type):\n    pass\n", "def one(max):\n    pass\n", "def one():\n    return 1 / 2\n",
            "def one():\n    return 1.5\n", "def one(some):\n    return {part for part in some}\n",
            "def one(some):\n    return sum(part for part in some)\n", "def one(some):\n    assert some\n",
            "def one(some):\n    some.sort()\n", "def one(some):\n    return map(str, some)\n",
            "def one(some):\n    return 2 ** some\n", "def one(some):\n    a = b = some\n",
            "def one(some):\n    return some is one\n", "def one(some):\n    return f'{some + 1}'\n",
            "def one(some):\n    for part in some:\n        pass\n    else:\n        pass\n",
            "def one(some):\n    pairs = enumerate(some)\n", "def _one():\n    _two = 1\n",
            "def one(some):\n    return some is 1\n",
            "from sharewheel.pieces import longest\n\ndef one(longest):\n    return longest\n",
            "SOME = []\n\ndef one():\n    return SOME\n", "SOME = []\n\ndef one(part):\n    SOME.append(part)\n",
            "SOME = {}\n\ndef one(part):\n    SOME[part] = 1\n", "SOME = [[1]]\n", "SOME = {1: {}}\n",
            "def one(some):\n    return some.append\n",
            "class Own:\n    most = 1\n", "class Own(ValueError, KeyError):\n    pass\n",
            "# \u00e4\n", "# an Enum\n", "def one():\n" + "    pass\n" * 40, "#" * 121 + "\n", "#\n" * 401,
        ):
            with self.subTest(source):
                self.assertNotEqual(faults(source), [])


if __name__ == "__main__":
    unittest.main()
