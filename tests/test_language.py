"""The package keeps to its small part of Python: what of those rules a walk through the code can see."""

import ast
import builtins
import pathlib
import re
import unittest

PACKAGE = pathlib.Path(__file__).resolve().parent.parent / "beatwright"

NODES = """
    Module FunctionDef ClassDef arguments arg Lambda Return Assign AugAssign For While If Raise Try ExceptHandler
    ImportFrom alias Expr Pass Break Continue BoolOp And Or BinOp Add Sub Mult FloorDiv Mod Pow LShift RShift BitOr
    BitXor BitAnd UnaryOp Invert Not USub Compare Eq NotEq Lt LtE Gt GtE Is IsNot In NotIn IfExp Call keyword
    Attribute Subscript Slice Constant Name Load Store List Tuple Dict ListComp comprehension JoinedStr
    FormattedValue
""".split()

OWN_NAMES = """
    len range enumerate zip min max sum abs sorted reversed int str bool list tuple dict set frozenset isinstance
    ord repr any all divmod Exception ValueError TypeError KeyError IndexError LookupError ZeroDivisionError
    ArithmeticError OverflowError RuntimeError NotImplementedError AttributeError StopIteration
""".split()

OWN_METHODS = """
    append clear copy count endswith extend find get index insert isalnum isalpha isdigit islower isspace isupper
    items join keys ljust lower lstrip partition pop remove replace reverse rfind rjust rpartition rsplit rstrip
    setdefault split splitlines startswith strip update upper values zfill bit_length
""".split()

BANNED_WORDS = """
    type typing typing_extensions enum Enum IntEnum StrEnum Flag IntFlag Generic Protocol ABC ABCMeta namedtuple
    NamedTuple TypedDict TYPE_CHECKING abstractmethod
""".split()

WALKED_AT_ONCE = "zip enumerate reversed range items keys values".split()
WALKERS = "list tuple dict sorted sum any all enumerate zip min max".split()
TOO_WIDE = "Exception TypeError ValueError LookupError".split()
DUNDERS = "__init__ __eq__ __repr__ __str__ __len__".split()


def parents_of(tree):
    return {child: node for node in ast.walk(tree) for child in ast.iter_child_nodes(node)}


def called(node):
    """The name by which something is called, or None."""
    if not isinstance(node, ast.Call):
        return None
    return getattr(node.func, "id", getattr(node.func, "attr", None))


def bound_names(tree):
    """Every name that a file binds, wherever."""
    for node in ast.walk(tree):
        if isinstance(node, (ast.FunctionDef, ast.ClassDef)):
            yield node.name
        elif isinstance(node, ast.arg):
            yield node.arg
        elif isinstance(node, ast.alias):
            yield node.asname or node.name
        elif isinstance(node, ast.Name) and isinstance(node.ctx, ast.Store):
            yield node.id
        elif isinstance(node, ast.ExceptHandler) and node.name:
            yield node.name


def top_names(tree):
    for node in tree.body:
        if isinstance(node, (ast.FunctionDef, ast.ClassDef)):
            yield node.name
        elif isinstance(node, ast.Assign):
            yield node.targets[0].id
        elif isinstance(node, ast.ImportFrom):
            yield from (alias.name for alias in node.names)


def faults_of_text(text):
    lines = text.split("\n")
    if len(lines) > 401:
        yield "L10 a file of more than 400 lines"
    for line in lines:
        if len(line) > 120:
            yield "L10 a long line"
        if re.search(r"[^ -~]", line):
            yield "L14 a sign that is not allowed"
    for word in re.findall(r"\w+", text):
        if word in BANNED_WORDS or re.search("dataclass|overload|contextmanager", word):
            yield f"L17 the word {word}"


def faults_of_top(tree):
    names = list(top_names(tree))
    if len(names) != len(set(names)):
        yield "L15 a name bound twice at the top"
    for place, node in enumerate(tree.body):
        docstring = place == 0 and isinstance(node, ast.Expr) and isinstance(node.value, ast.Constant)
        if not docstring and not isinstance(node, (ast.ImportFrom, ast.FunctionDef, ast.ClassDef, ast.Assign)):
            yield "L3 something else at the top"
    for node in ast.walk(tree):
        if isinstance(node, (ast.ImportFrom, ast.ClassDef)) and node not in tree.body:
            yield "L2, L15 an import or a class within a def"


def methods_of(tree):
    return {item.name for node in tree.body if isinstance(node, ast.ClassDef) for item in node.body
            if isinstance(item, ast.FunctionDef)}


def values_of(tree):
    """The names of the values that objects are given."""
    return {node.attr for node in ast.walk(tree) if isinstance(node, ast.Attribute) and isinstance(node.ctx, ast.Store)}


def faults_of_names(tree, methods):
    bound = set(bound_names(tree))
    for name in bound:
        if name.startswith("_") and name not in DUNDERS:
            yield f"L12 {name}"
        if name in dir(builtins) and name not in methods:
            yield f"L15 {name} is Python's own"
    outer = {alias.name for node in tree.body if isinstance(node, ast.ImportFrom) for alias in node.names}
    outer |= {node.name for node in tree.body if isinstance(node, ast.ClassDef)}
    defs = [node for node in ast.walk(tree) if isinstance(node, ast.FunctionDef)]
    inner = [name for node in defs for part in ast.iter_child_nodes(node) for name in bound_names(part)]
    for name in outer & set(inner):
        yield f"L15 {name} is bound within a def too"
    for node in ast.walk(tree):
        if isinstance(node, ast.Name) and node.id not in bound and node.id not in OWN_NAMES:
            yield f"L8 {node.id}"
        if isinstance(node, ast.Call) and isinstance(node.func, ast.Attribute):
            if node.func.attr not in OWN_METHODS and node.func.attr not in methods | {"__init__"}:
                yield f"L25 {node.func.attr}"


def faults_of_defs(tree):
    for node in ast.walk(tree):
        if isinstance(node, (ast.FunctionDef, ast.ClassDef)) and node.decorator_list:
            yield "L4, L5 a decorator"
        if isinstance(node, ast.FunctionDef):
            if node.end_lineno - node.lineno >= 40:
                yield "L10 a def of more than 40 lines"
            kinds = node.args
            if kinds.vararg or kinds.kwarg or kinds.kwonlyargs or kinds.posonlyargs:
                yield "L4 a parameter that is not plain"
        if isinstance(node, ast.ClassDef):
            if len(node.bases) > 1 or node.keywords:
                yield "L5 a class of more than one base"
            if any(not isinstance(item, (ast.FunctionDef, ast.Pass)) for item in node.body):
                yield "L5 a value in a class"


def is_docstring(node, parents):
    above = parents[node]
    return isinstance(above, ast.Module) and above.body[0] is node


def faults_of_parts(tree):
    parents = parents_of(tree)
    for node in ast.walk(tree):
        kind = node.__class__.__name__
        if kind not in NODES:
            yield f"L6, L7 {kind}"
        if isinstance(node, ast.Assign) and (len(node.targets) > 1 or isinstance(node.targets[0], ast.Tuple)):
            yield "L6 more than one target"
        if isinstance(node, ast.Expr) and not isinstance(node.value, ast.Call) and not is_docstring(node, parents):
            yield "L6 a value by itself"
        if isinstance(node, (ast.For, ast.While, ast.Try)) and getattr(node, "finalbody", []):
            yield "L6 finally"
        if isinstance(node, (ast.For, ast.While)) and node.orelse:
            yield "L6 else behind a loop"
        if isinstance(node, ast.ListComp) and (len(node.generators) > 1 or len(node.generators[0].ifs) > 1):
            yield "L7 a comprehension that is not plain"
        if isinstance(node, ast.FormattedValue) and not isinstance(node.value, ast.Name):
            yield "L7 an f-string that is not plain"
        if isinstance(node, ast.Constant) and isinstance(node.value, (float, bytes, complex)):
            yield "L7 a value that is not allowed"
        if isinstance(node, ast.Constant) and isinstance(node.value, str) and "%" in node.value:
            yield "L27 a percent sign within a text"
        if isinstance(node, ast.BinOp) and isinstance(node.op, ast.Pow) and not isinstance(node.right, ast.Constant):
            yield "L27 an exponent that is not written out"
        if isinstance(node, ast.Compare) and any(isinstance(op, (ast.Is, ast.IsNot)) for op in node.ops):
            if not isinstance(node.comparators[-1], ast.Constant):
                yield "L20 is"
        if isinstance(node, ast.ExceptHandler) and getattr(node.type, "id", "Exception") in TOO_WIDE:
            yield "L19 an error that is not named"
        yield from faults_of_call(node, parents)


def faults_of_call(node, parents):
    above = parents.get(node)
    if called(node) in WALKED_AT_ONCE and called(above) not in WALKERS:
        if called(above) != "join" and getattr(above, "iter", None) is not node:
            yield f"L23 {called(node)} is kept"
    if called(node) == "set" and called(above) not in ("sorted", "len"):
        if not isinstance(above, (ast.Compare, ast.BinOp)):
            yield "L24 a set is kept"


def faults_of(text, methods):
    tree = ast.parse(text)
    told = list(faults_of_text(text)) + list(faults_of_names(tree, methods))
    for look in (faults_of_top, faults_of_defs, faults_of_parts):
        told += look(tree)
    return told


def drawn_from(tree):
    """The modules and names that a file imports."""
    for node in tree.body:
        if isinstance(node, ast.ImportFrom):
            yield node.level, node.module, [alias.name for alias in node.names]


class LanguageTest(unittest.TestCase):
    def trees(self):
        return {f"beatwright.{path.stem}": ast.parse(path.read_text()) for path in PACKAGE.glob("*.py")}

    def test_the_folder_holds_plain_files_alone(self):
        names = [path.name for path in PACKAGE.iterdir() if path.name != "__pycache__"]
        self.assertIn("__init__.py", names)
        for name in names:
            self.assertRegex(name, r"\A([a-z][a-z0-9_]*|__init__|__main__)\.py\Z")
            self.assertNotIn(name[:-3], dir(builtins))

    def test_each_file_keeps_to_the_rules(self):
        methods = set().union(*[methods_of(tree) for tree in self.trees().values()])
        for path in PACKAGE.glob("*.py"):
            with self.subTest(file=path.name):
                self.assertEqual(faults_of(path.read_text(), methods), [])

    def test_no_name_is_a_method_and_a_value(self):
        trees = self.trees().values()
        methods = set().union(*[methods_of(tree) for tree in trees])
        values = set().union(*[values_of(tree) for tree in trees])
        self.assertEqual(methods & values, set())
        for kind in (int, str, list, dict, set, bytes):
            self.assertEqual(values & set(dir(kind)), set())

    def test_imports_come_from_the_file_that_defines_the_name(self):
        trees = self.trees()
        for file, tree in trees.items():
            for level, module, names in drawn_from(tree):
                with self.subTest(file=file, module=module):
                    self.assertEqual(level, 0)
                    defined = [name for node in trees[module].body if not isinstance(node, ast.ImportFrom)
                               for name in top_names(ast.Module([node], []))]
                    self.assertLessEqual(set(names), set(defined))

    def test_no_two_files_draw_from_one_another(self):
        left = {file: {module for _, module, _ in drawn_from(tree)} for file, tree in self.trees().items()}
        while left:
            free = [file for file in left if not left[file] & set(left)]
            self.assertTrue(free, f"a ring among {sorted(left)}")
            for file in free:
                left.pop(file)

    def test_faults_are_seen(self):
        bad = [
            "import os\n", "x = 1.5\n", "x = 3 / 2\n", "x = y = 1\n", "x = 1\nx = 2\n", "print(1)\n",
            "def f(*xs):\n    return xs\n", "def f(xs):\n    return {x for x in xs}\n",
            "def f(n):\n    return 2 ** n\n", "def f(n):\n    return chr(n)\n", "def f(min):\n    return min\n",
            "def f(xs):\n    xs.sort()\n", "def f(xs):\n    ys = set(xs)\n", "def f(xs):\n    ys = zip(xs, xs)\n",
            "def f(a, b):\n    return a is b\n", "def _f():\n    pass\n", "x = 'a%'\n", "# a type\n", "# \u00e9\n",
            "class A(B, C):\n    pass\n", "def f(x):\n    assert x\n", "def f(xs):\n    return (x for x in xs)\n",
            "x = 1" + " " * 120 + "\n", "x = 1\n" * 401, "def f():\n" + "    pass\n" * 41, "x = f'{1 + 1}'\n",
            "from beatwright.words import cut\n\n\ndef f(cut):\n    return cut\n",
            "from beatwright.words import cut\n\n\nclass A:\n    def f(self, cut):\n        return cut\n",
            "def f():\n    try:\n        f()\n    except ValueError:\n        pass\n",
            "def f(a):\n    a + 1\n", "def f():\n    'says'\n", "def f(a):\n    b, c = a\n",
        ]
        for text in bad:
            with self.subTest(text=text[:60]):
                self.assertNotEqual(faults_of(text, set()), [])
        self.assertEqual(faults_of("x = 1\n\n\ndef f(xs):\n    return sorted(set(xs))\n", set()), [])


if __name__ == "__main__":
    unittest.main()
