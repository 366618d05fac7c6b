"""The package's form: those rules of LANGUAGE.md that can be read off the files."""

import ast
import builtins
import re
import unittest
from pathlib import Path

PACKAGE = Path(__file__).resolve().parent.parent / "shareparley"

OWN_NAMES = set("""len range enumerate zip min max sum abs sorted reversed int str bool list tuple dict set frozenset
isinstance ord repr any all divmod Exception ValueError TypeError KeyError IndexError LookupError ZeroDivisionError
ArithmeticError OverflowError RuntimeError NotImplementedError AttributeError StopIteration""".split())
OWN_METHODS = set("""append clear copy count endswith extend find get index insert isalnum isalpha isdigit islower
isspace isupper items join keys ljust lower lstrip partition pop remove replace reverse rfind rjust rpartition rsplit
rstrip setdefault split splitlines startswith strip update upper values zfill bit_length""".split())
TWO_UNDERSCORES = set("__init__ __eq__ __repr__ __str__ __len__".split())
UNUSED_WORDS = """type typing typing_extensions enum Enum IntEnum StrEnum Flag IntFlag Generic Protocol ABC ABCMeta
namedtuple NamedTuple TypedDict TYPE_CHECKING abstractmethod""".split()
UNUSED_PIECES = ["dataclass", "overload", "contextmanager"]
UNUSED_NAMES = set("""register mro elements open input version_info with_traceback add_note format format_map
attrgetter breakpoint builtins compile copyright credits delattr dir eval exec exit gc getattr globals hasattr help
id importlib license locals methodcaller os quit setattr super vars sys chr print""".split())
UNUSED_FILES = set("test tests testing site conftest sitecustomize usercustomize".split())
NODES = """Module FunctionDef ClassDef Return Assign AugAssign For While If Raise Try ImportFrom Expr Pass Break
Continue BoolOp BinOp UnaryOp Lambda IfExp Dict Set ListComp Compare Call FormattedValue JoinedStr Constant
Attribute Subscript Name List Tuple Slice Load Store And Or Add Sub Mult Mod Pow LShift RShift BitOr BitXor BitAnd
FloorDiv Invert Not UAdd USub Eq NotEq Lt LtE Gt GtE Is IsNot In NotIn comprehension ExceptHandler arguments arg
keyword alias""".split()

WALKED = ["zip", "enumerate", "reversed", "range", "items", "keys", "values"]
WALKERS = ["list", "tuple", "dict", "sorted", "sum", "any", "all", "enumerate", "zip", "min", "max", "join"]
KEYWORDS = {name: [] for name in OWN_NAMES} | {"sorted": ["key", "reverse"], "min": ["key", "default"],
                                               "max": ["key", "default"], "sum": ["start"], "enumerate": ["start"],
                                               "zip": ["strict"]}


def form_faults(text):
    """L10, L14, L17: lengths, signs and words."""
    faults = []
    rows = text.split("\n")
    if len(rows) > 401:
        faults.append("L10 file")
    for number, row in enumerate(rows, start=1):
        if len(row) > 120:
            faults.append(f"L10 row {number}")
        if any(not " " <= sign <= "~" for sign in row):
            faults.append(f"L14 sign in row {number}")
    words = re.findall(r"[A-Za-z0-9_]+", text)
    faults += [f"L17 {word}" for word in UNUSED_WORDS if word in words]
    return faults + [f"L17 {piece}" for piece in UNUSED_PIECES if piece in text]


def bound_names(tree):
    """The names that a file's own code binds, wherever in it."""
    names = [node.name for node in ast.walk(tree) if isinstance(node, (ast.FunctionDef, ast.ClassDef))]
    names += [node.arg for node in ast.walk(tree) if isinstance(node, ast.arg)]
    return names + [node.id for node in ast.walk(tree)
                    if isinstance(node, ast.Name) and isinstance(node.ctx, ast.Store)]


def name_faults(tree):
    """L8, L12, L15, L17: which names are bound and which are used."""
    faults = []
    for name in bound_names(tree):
        if name in dir(builtins) or name in UNUSED_NAMES:
            faults.append(f"L15 {name}")
        if name.startswith("_") and name not in TWO_UNDERSCORES:
            faults.append(f"L12 {name}")
    for node in ast.walk(tree):
        if isinstance(node, ast.Name) and node.id in dir(builtins) and node.id not in OWN_NAMES:
            faults.append(f"L8 {node.id}")
        if isinstance(node, ast.Attribute) and node.attr in UNUSED_NAMES:
            faults.append(f"L17 {node.attr}")
    return faults


def node_faults(node):
    """L4 to L7, L20, L27: what may stand at one place."""
    if type(node).__name__ not in NODES:
        return [f"L6 {type(node).__name__}"]
    if isinstance(node, ast.Constant) and type(node.value) not in (int, str, bool, type(None)):
        return ["L7 value"]
    if isinstance(node, ast.Constant) and isinstance(node.value, str) and "%" in node.value:
        return ["L27 %"]
    if isinstance(node, ast.FormattedValue):
        if not isinstance(node.value, ast.Name) or node.format_spec or node.conversion not in (-1, ord("r")):
            return ["L7 braces"]
    if isinstance(node, ast.Assign) and len(node.targets) != 1:
        return ["L6 targets"]
    if isinstance(node, (ast.For, ast.While)) and node.orelse or isinstance(node, ast.Try) and node.finalbody:
        return ["L6 else"]
    if isinstance(node, ast.ListComp) and (len(node.generators) != 1 or len(node.generators[0].ifs) > 1):
        return ["L7 comprehension"]
    if isinstance(node, ast.BinOp) and isinstance(node.op, ast.Pow) and not isinstance(node.right, ast.Constant):
        return ["L27 **"]
    if isinstance(node, ast.Compare) and any(isinstance(op, (ast.Is, ast.IsNot)) for op in node.ops):
        sides = [node.left] + node.comparators
        if not any(isinstance(side, ast.Constant) and type(side.value) in (bool, type(None)) for side in sides):
            return ["L20 is"]
    return []


def def_faults(node):
    """L4, L5, L10: functions and classes."""
    faults = []
    if isinstance(node, (ast.FunctionDef, ast.ClassDef)) and node.decorator_list:
        faults.append(f"L4 {node.name}")
    if isinstance(node, ast.FunctionDef):
        if node.end_lineno - node.lineno + 1 > 40:
            faults.append(f"L10 {node.name}")
        if node.args.vararg or node.args.kwarg or node.args.kwonlyargs or node.args.posonlyargs:
            faults.append(f"L4 {node.name}")
    if isinstance(node, ast.ClassDef):
        if len(node.bases) > 1 or node.keywords:
            faults.append(f"L5 {node.name}")
        if not all(isinstance(row, (ast.FunctionDef, ast.Pass)) for row in node.body):
            faults.append(f"L5 {node.name}")
    return faults


def top_faults(tree):
    """L3, L15: what stands at a file's top, each name once."""
    faults = []
    names = []
    for place, node in enumerate(tree.body):
        if isinstance(node, (ast.FunctionDef, ast.ClassDef)):
            names.append(node.name)
        elif isinstance(node, ast.ImportFrom):
            names += [alias.asname or alias.name for alias in node.names]
        elif isinstance(node, ast.Assign) and isinstance(node.targets[0], ast.Name):
            names.append(node.targets[0].id)
        elif not (place == 0 and isinstance(node, ast.Expr) and isinstance(node.value, ast.Constant)):
            faults.append(f"L3 row {node.lineno}")
    return faults + [f"L15 {name}" for name in sorted(set(names)) if names.count(name) > 1]


def shadow_faults(tree):
    """L15: no parameter and no local is called like a class or an import of its file."""
    taken = [node.name for node in tree.body if isinstance(node, ast.ClassDef)]
    taken += [alias.name for node in tree.body if isinstance(node, ast.ImportFrom) for alias in node.names]
    names = [node.arg for node in ast.walk(tree) if isinstance(node, ast.arg)]
    names += [node.id for node in ast.walk(tree) if isinstance(node, ast.Name) and isinstance(node.ctx, ast.Store)]
    return [f"L15 {name}" for name in names if name in taken]


def name_called(node):
    """The name by which something is called, of Python's own names and methods."""
    if not isinstance(node, ast.Call):
        return None
    return getattr(node.func, "id", None) or getattr(node.func, "attr", None)


def walk_faults(tree):
    """L22, L23: keywords of Python's own, and what is walked on the spot."""
    on_the_spot = []
    faults = []
    for node in ast.walk(tree):
        if isinstance(node, (ast.For, ast.comprehension)):
            on_the_spot.append(node.iter)
        if name_called(node) in WALKERS:
            on_the_spot += node.args if name_called(node) == "zip" else node.args[:1]
        if name_called(node) in KEYWORDS and isinstance(node.func, ast.Name):
            faults += [f"L22 {word.arg}" for word in node.keywords if word.arg not in KEYWORDS[name_called(node)]]
    return faults + [f"L23 row {node.lineno}" for node in ast.walk(tree)
                     if name_called(node) in WALKED and node not in on_the_spot]


def set_faults(tree):
    """L24: a set stands beside `in`, == or !=, or straight within sorted or len."""
    parents = {child: node for node in ast.walk(tree) for child in ast.iter_child_nodes(node)}
    faults = []
    for node in ast.walk(tree):
        if name_called(node) not in ("set", "frozenset") and not isinstance(node, ast.Set):
            continue
        around = parents[node]
        while isinstance(around, ast.BinOp):
            around = parents[around]
        within = name_called(around) in ("sorted", "len") and not around.keywords
        if not within and not isinstance(around, ast.Compare):
            faults.append(f"L24 row {node.lineno}")
    return faults


def method_faults(trees):
    """L18, L25: the methods that are called are Python's own few or the package's."""
    own = [row.name for tree in trees for node in ast.walk(tree) if isinstance(node, ast.ClassDef)
           for row in node.body if isinstance(row, ast.FunctionDef)]
    called = [node.func.attr for tree in trees for node in ast.walk(tree)
              if isinstance(node, ast.Call) and isinstance(node.func, ast.Attribute)]
    stored = [node.attr for tree in trees for node in ast.walk(tree)
              if isinstance(node, ast.Attribute) and isinstance(node.ctx, ast.Store)]
    faults = [f"L25 {name}" for name in called if name not in OWN_METHODS and name not in own]
    return faults + [f"L18 {name}" for name in stored if name in own]


def text_faults(text):
    """All faults of one file."""
    tree = ast.parse(text)
    faults = form_faults(text) + name_faults(tree) + top_faults(tree) + shadow_faults(tree) + walk_faults(tree)
    faults += set_faults(tree)
    for node in ast.walk(tree):
        faults += node_faults(node) + def_faults(node)
    return faults + method_faults([tree])


def defined(tree):
    """The names that stand at a file's top and are no imports."""
    names = [node.name for node in tree.body if isinstance(node, (ast.FunctionDef, ast.ClassDef))]
    return names + [node.targets[0].id for node in tree.body if isinstance(node, ast.Assign)]


def draws_in_a_ring(drawn):
    """Whether some file draws from itself, in however many steps (L16)."""
    left = dict(drawn)
    while True:
        free = [name for name in left if not any(source in left for source in left[name])]
        if not free:
            return bool(left)
        for name in free:
            left.pop(name)


class TestLanguage(unittest.TestCase):
    def setUp(self):
        self.texts = {path.stem: path.read_text(encoding="utf-8") for path in sorted(PACKAGE.glob("*.py"))}
        self.trees = {name: ast.parse(text) for name, text in self.texts.items()}

    def test_files(self):
        for path in PACKAGE.iterdir():
            if path.name == "__pycache__":
                continue
            with self.subTest(path=path.name):
                self.assertRegex(path.name, r"\A[a-z0-9_]+\.py\Z")
                self.assertNotIn(path.stem, dir(builtins))
                self.assertNotIn(path.stem, UNUSED_WORDS)
                self.assertNotIn(path.stem, UNUSED_FILES)
                self.assertFalse(path.stem.startswith("test_"))
        self.assertIn("__init__", self.texts)

    def test_each_file(self):
        for name, text in self.texts.items():
            with self.subTest(name=name):
                self.assertEqual([fault for fault in text_faults(text) if not fault.startswith("L25")], [])

    def test_methods(self):
        self.assertEqual(method_faults(list(self.trees.values())), [])

    def test_imports(self):
        drawn = {}
        for name, tree in self.trees.items():
            drawn[name] = []
            for node in ast.walk(tree):
                if not isinstance(node, ast.ImportFrom):
                    continue
                with self.subTest(name=name, row=node.lineno):
                    self.assertIn(node, tree.body)
                    self.assertEqual(node.level, 0)
                    self.assertRegex(node.module, r"\Ashareparley\.[a-z0-9_]+\Z")
                    source = node.module.split(".")[1]
                    drawn[name].append(source)
                    for alias in node.names:
                        self.assertIn(alias.name, defined(self.trees[source]))
        self.assertFalse(draws_in_a_ring(drawn))


class TestTheReading(unittest.TestCase):
    def test_faults_are_seen(self):
        for text in ["x = 1.5\n", "x = 1 / 2\n", "import os\n", "x = [1]\nx = [2]\n", "def f(*a):\n    pass\n",
                     "def f(x):\n    del x\n", "def f(x):\n    return x is 1\n", "def f(n):\n    return 2 ** n\n",
                     "def f(x):\n    return type(x)\n", "def f(x):\n    x.sort()\n", "# caf\u00e9\n",
                     "def f():\n\tpass\n",
                     "def f(sum):\n    return sum\n", "def f():\n    return {n for n in (1, 2)}\n", "f()\n",
                     "class A:\n    x = 1\n", "def _f():\n    pass\n", "def f():\n" + "    pass\n" * 40,
                     "x = 1 #" + "x" * 120 + "\n", "def f(x):\n    x = y = 1\n", "def f(x):\n    return hash(x)\n",
                     "def f(x):\n    return f'{x.y}'\n", "def f(x):\n    return f'{x:3}'\n",
                     "def f(x):\n    return f'{x!s}'\n", "class A:\n    pass\n\n\ndef f(A):\n    return A\n",
                     "from shareparley.groups import cut\n\n\ndef f():\n    cut = 1\n    return cut\n",
                     "def f(x):\n    y = zip(x, x)\n    return y\n", "def f(x):\n    return x.items()\n",
                     "def f(x):\n    return int(x, base=2)\n", "def f(x):\n    return range(3)[x]\n",
                     "def f(x):\n    return sorted(set(x), reverse=True)\n", "def f(x):\n    return max(set(x))\n",
                     "def f(x):\n    y = set(x)\n    return y\n", "def f(x):\n    return [y for y in {1, x}]\n"]:
            with self.subTest(text=text):
                self.assertNotEqual(text_faults(text), [])

    def test_what_may_be_is_let_through(self):
        for text in ["def f(x):\n    return sorted(set(x) - set([1]))\n", "def f(x):\n    return x in {1, 2, 3}\n",
                     "def f(x):\n    return len(set(x)) == len(x)\n", "def f(x, y):\n    return set(x) == set(y)\n",
                     "def f(x):\n    return [y for y in reversed(sorted(x))]\n"]:
            with self.subTest(text=text):
                self.assertEqual(text_faults(text), [])

    def test_a_ring_is_seen(self):
        self.assertTrue(draws_in_a_ring({"a": ["b"], "b": ["c"], "c": ["a"], "d": []}))
        self.assertFalse(draws_in_a_ring({"a": ["b", "c"], "b": ["c"], "c": []}))


if __name__ == "__main__":
    unittest.main()
