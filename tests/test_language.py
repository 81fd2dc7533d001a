"""The package keeps to LANGUAGE.md, L1 to L28.

Where the package has no need of a form that a rule lets pass under conditions
(errors, sets, lambdas, annotations, f-strings ..), the form as a whole is a
fault here: that is narrower than the rules, and easier to be sure of.
"""

import ast
import builtins
import pathlib
import re
import unittest

PACKAGE = pathlib.Path(__file__).resolve().parent.parent / "meterbookdesk"

STATEMENTS = (
    ast.FunctionDef, ast.ClassDef, ast.ImportFrom, ast.Assign, ast.AugAssign, ast.If, ast.While, ast.For, ast.Return,
    ast.Break, ast.Continue, ast.Pass, ast.Expr,
)
EXPRESSIONS = (
    ast.Constant, ast.Name, ast.Attribute, ast.Call, ast.Subscript, ast.Slice, ast.List, ast.Tuple, ast.Dict,
    ast.ListComp, ast.BinOp, ast.UnaryOp, ast.BoolOp, ast.Compare, ast.IfExp,
)
PARTS = (
    ast.Module, ast.arguments, ast.arg, ast.keyword, ast.alias, ast.comprehension, ast.expr_context,
    ast.boolop, ast.unaryop, ast.cmpop, ast.operator,
)
OWN_NAMES = (
    "len range enumerate zip min max sum abs sorted reversed int str bool list tuple dict isinstance "
    "repr any all divmod"
).split()
ON_THE_SPOT = ("zip", "enumerate", "reversed", "range", "items", "keys", "values")
WALKERS = ("list", "tuple", "dict", "sorted", "sum", "any", "all", "enumerate", "zip", "min", "max")
CHANGERS = ("append", "clear", "extend", "insert", "pop", "remove", "reverse", "setdefault", "update")
METHODS = (
    "append clear copy count endswith extend find get index insert isalnum isalpha isdigit islower isspace isupper "
    "items join keys ljust lower lstrip partition pop remove replace reverse rfind rjust rpartition rsplit rstrip "
    "setdefault split splitlines startswith strip update upper values zfill bit_length"
).split()
NOWHERE = ("register mro elements open input version_info with_traceback add_note format format_map").split()
NO_NAMES = (
    "attrgetter breakpoint builtins compile copyright credits delattr dir eval exec exit gc getattr globals hasattr "
    "help id importlib license locals methodcaller os quit setattr super type vars sys"
).split()
NO_WORDS = (
    "type typing typing_extensions enum Enum IntEnum StrEnum Flag IntFlag Generic Protocol ABC ABCMeta namedtuple "
    "NamedTuple TypedDict TYPE_CHECKING abstractmethod"
).split()
NO_PARTS = ("dataclass", "overload", "contextmanager")
NO_FILES = "test tests testing site conftest sitecustomize usercustomize".split()
BUILTIN_ATTRIBUTES = {
    name for kind in (str, int, list, dict, set, frozenset, bytes, bytearray, tuple, bool) for name in dir(kind)
}
PLAIN = re.compile(r"[A-Za-z][A-Za-z0-9_]*\Z")


class Checker:
    """Gathers the faults of one package, told as files with their texts."""

    def __init__(self, files):
        self.found = []
        self.files = files
        self.trees = {}
        for name, text in files.items():
            self.check_file(name, text)
            self.trees[name] = ast.parse(text)
        self.own_methods = set()
        self.own_values = set()
        for tree in self.trees.values():
            self.gather(tree)
        for name in self.own_methods & self.own_values:
            self.fault("L18", name, 0)
        for name, tree in self.trees.items():
            self.check_tree(name, tree)
        self.check_circles()

    def fault(self, rule, name, line):
        self.found.append((rule, name, line))

    def gather(self, tree):
        for node in ast.walk(tree):
            if isinstance(node, ast.ClassDef):
                self.own_methods |= {part.name for part in node.body if isinstance(part, ast.FunctionDef)}
            if isinstance(node, ast.Attribute) and isinstance(node.ctx, ast.Store):
                self.own_values.add(node.attr)

    def check_file(self, name, text):
        stem = name.removesuffix(".py")
        if stem == name or not re.fullmatch(r"[a-z][a-z0-9_]*|__init__", stem):
            self.fault("L1", name, 0)
        called_alike = stem != "__init__" and hasattr(builtins, stem)
        if stem in NO_FILES + NO_WORDS or stem.startswith("test_") or called_alike:
            self.fault("L14", name, 0)
        lines = text.split("\n")
        if len(lines) > 401:
            self.fault("L10", name, 0)
        for number, line in enumerate(lines, start=1):
            if len(line) > 120 or "\t" in line:
                self.fault("L10", name, number)
            if not all(" " <= sign <= "~" for sign in line):
                self.fault("L14", name, number)
            words = re.findall(r"[A-Za-z0-9_]+", line)
            if any(word in NO_WORDS or any(part in word for part in NO_PARTS) for word in words):
                self.fault("L17", name, number)
            if "\\" in line:
                self.fault("L27", name, number)

    def check_tree(self, name, tree):
        self.name = name
        self.parents = {child: node for node in ast.walk(tree) for child in ast.iter_child_nodes(node)}
        self.check_top(tree)
        for node in ast.walk(tree):
            if isinstance(node, ast.stmt) and not isinstance(node, STATEMENTS):
                self.fault("L6", name, node.lineno)
            elif isinstance(node, ast.expr) and not isinstance(node, EXPRESSIONS):
                self.fault("L7", name, node.lineno)
            elif not isinstance(node, (ast.stmt, ast.expr) + PARTS):
                self.fault("L7", name, 0)
            check = getattr(self, "check_" + node.__class__.__name__, None)
            if check is not None:
                check(node)

    def check_top(self, tree):
        self.bound = []
        self.tops = []
        self.classes = []
        self.imports = []
        for at, node in enumerate(tree.body):
            if isinstance(node, ast.ImportFrom):
                self.imports += [alias.name for alias in node.names]
                self.bound += [alias.name for alias in node.names]
            elif isinstance(node, ast.FunctionDef):
                self.bound.append(node.name)
            elif isinstance(node, ast.ClassDef):
                self.classes.append(node.name)
                self.bound.append(node.name)
            elif isinstance(node, ast.Assign) and isinstance(node.targets[0], ast.Name):
                defined = [part.name for part in tree.body[:at] if isinstance(part, ast.FunctionDef)]
                if not is_plain(node.value, defined, True):
                    self.fault("L3", self.name, node.lineno)
                self.bound.append(node.targets[0].id)
                if isinstance(node.value, (ast.List, ast.Dict)):
                    self.tops.append(node.targets[0].id)
            elif not (at == 0 and is_text(node)):
                self.fault("L3", self.name, node.lineno)
        if self.name == "__init__.py" and self.bound:
            self.fault("L16", self.name, 0)
        for bound in self.bound:
            if self.bound.count(bound) > 1 or hasattr(builtins, bound):
                self.fault("L15", self.name, 0)

    def check_Import(self, node):
        self.fault("L2", self.name, node.lineno)

    def check_ImportFrom(self, node):
        parts = (node.module or "").split(".")
        if node.level or len(parts) != 2 or parts[0] != "meterbookdesk" or parts[1] + ".py" not in self.trees:
            self.fault("L2", self.name, node.lineno)
            return
        if not isinstance(self.parents[node], ast.Module):
            self.fault("L2", self.name, node.lineno)
        defined = []
        for part in self.trees[parts[1] + ".py"].body:
            if isinstance(part, (ast.FunctionDef, ast.ClassDef)):
                defined.append(part.name)
            if isinstance(part, ast.Assign):
                defined.append(part.targets[0].id)
        for alias in node.names:
            if alias.name not in defined or alias.asname is not None:
                self.fault("L16", self.name, node.lineno)

    def check_circles(self):
        drawn = {}
        for name, tree in self.trees.items():
            drawn[name] = {
                node.module.split(".")[-1] + ".py" for node in tree.body if isinstance(node, ast.ImportFrom)
            }
        for name in drawn:
            reached = set()
            waiting = list(drawn[name])
            while waiting:
                other = waiting.pop()
                if other not in reached:
                    reached.add(other)
                    waiting += drawn.get(other, ())
            if name in reached:
                self.fault("L16", name, 0)

    def check_FunctionDef(self, node):
        taken = node.args
        if taken.vararg or taken.kwarg or taken.kwonlyargs or taken.posonlyargs or node.decorator_list:
            self.fault("L4", self.name, node.lineno)
        if not all(is_plain(default, [], True) for default in taken.defaults):
            self.fault("L4", self.name, node.lineno)
        if not isinstance(self.parents[node], (ast.Module, ast.ClassDef)):
            self.fault("L4", self.name, node.lineno)
        if node.returns is not None:
            self.fault("L21", self.name, node.lineno)
        if node.end_lineno - node.lineno + 1 > 40:
            self.fault("L10", self.name, node.lineno)
        if node.name == "__init__":
            if any(isinstance(part, ast.Return) for part in ast.walk(node)):
                self.fault("L28", self.name, node.lineno)
            if not isinstance(self.parents[node], ast.ClassDef):
                self.fault("L8", self.name, node.lineno)
        else:
            self.check_name(node.name, node.lineno)
            if isinstance(self.parents[node], ast.ClassDef) and node.name in BUILTIN_ATTRIBUTES:
                self.fault("L26", self.name, node.lineno)

    def check_ClassDef(self, node):
        self.check_name(node.name, node.lineno)
        if node.bases or node.keywords or node.decorator_list or not isinstance(self.parents[node], ast.Module):
            self.fault("L5", self.name, node.lineno)
        names = []
        for at, part in enumerate(node.body):
            if isinstance(part, ast.FunctionDef):
                names.append(part.name)
            elif not (at == 0 and is_text(part)):
                self.fault("L5", self.name, part.lineno)
        if len(names) != len(set(names)):
            self.fault("L18", self.name, node.lineno)

    def check_arg(self, node):
        self.check_local(node.arg, node.lineno)
        if node.annotation is not None:
            self.fault("L21", self.name, node.lineno)

    def check_name(self, word, line):
        if not PLAIN.match(word):
            self.fault("L12", self.name, line)
        if word in NOWHERE or word in NO_NAMES:
            self.fault("L17", self.name, line)

    def check_local(self, word, line):
        self.check_name(word, line)
        if word in self.classes or word in self.imports or hasattr(builtins, word):
            self.fault("L15", self.name, line)

    def check_Name(self, node):
        parent = self.parents[node]
        if isinstance(node.ctx, ast.Store):
            self.check_local(node.id, node.lineno)
            return
        self.check_name(node.id, node.lineno)
        called = isinstance(parent, ast.Call) and parent.func is node
        if hasattr(builtins, node.id):
            if node.id not in OWN_NAMES:
                self.fault("L8", self.name, node.lineno)
            if not called:
                self.fault("L22", self.name, node.lineno)
        if node.id in self.classes and not called:
            self.fault("L18", self.name, node.lineno)
        if node.id in self.tops:
            self.check_top_use(node, parent)

    def check_top_use(self, node, parent):
        indexed = isinstance(parent, ast.Subscript) and parent.value is node and isinstance(parent.ctx, ast.Load)
        asked = isinstance(parent, ast.Compare)
        walked = isinstance(parent, (ast.For, ast.comprehension)) and parent.iter is node
        measured = isinstance(parent, ast.Call) and getattr(parent.func, "id", "") in ("len", "list", "dict")
        if not (indexed or asked or walked or measured):
            self.fault("L15", self.name, node.lineno)

    def check_Attribute(self, node):
        if node.attr in NOWHERE or node.attr in NO_NAMES:
            self.fault("L17", self.name, node.lineno)
        if not PLAIN.match(node.attr):
            self.fault("L12", self.name, node.lineno)
        parent = self.parents[node]
        called = isinstance(parent, ast.Call) and parent.func is node
        if isinstance(node.ctx, ast.Store):
            if node.attr in BUILTIN_ATTRIBUTES:
                self.fault("L26", self.name, node.lineno)
            if not isinstance(node.value, ast.Name) or node.value.id in self.bound:
                self.fault("L18", self.name, node.lineno)
        elif called:
            if node.attr not in self.own_methods and node.attr not in METHODS:
                self.fault("L25", self.name, node.lineno)
        elif node.attr not in self.own_values:
            self.fault("L25", self.name, node.lineno)

    def check_Call(self, node):
        if node.keywords:
            self.fault("L22", self.name, node.lineno)
        word = getattr(node.func, "id", getattr(node.func, "attr", ""))
        if word in ON_THE_SPOT:
            parent = self.parents[node]
            looped = isinstance(parent, (ast.For, ast.comprehension)) and parent.iter is node
            taken = isinstance(parent, ast.Call) and getattr(parent.func, "id", "") in WALKERS
            if not (looped or taken and parent.args[0] is node):
                self.fault("L23", self.name, node.lineno)

    def check_For(self, node):
        if node.orelse:
            self.fault("L6", self.name, node.lineno)
        walked = {ast.dump(part) for part in [node.iter] + getattr(node.iter, "args", [])}
        if isinstance(node.iter, ast.Call) and isinstance(node.iter.func, ast.Attribute):
            walked.add(ast.dump(node.iter.func.value))
        for part in [inner for statement in node.body for inner in ast.walk(statement)]:
            changed = None
            if isinstance(part, ast.Call) and isinstance(part.func, ast.Attribute) and part.func.attr in CHANGERS:
                changed = part.func.value
            if isinstance(part, ast.Subscript) and isinstance(part.ctx, ast.Store):
                changed = part.value
            if changed is not None and ast.dump(changed) in walked:
                self.fault("L23", self.name, part.lineno)

    def check_While(self, node):
        if node.orelse:
            self.fault("L6", self.name, node.lineno)

    def check_Assign(self, node):
        # The rule says one target; a pair on the left is held to be two.
        if len(node.targets) != 1 or isinstance(node.targets[0], (ast.Tuple, ast.List)):
            self.fault("L6", self.name, node.lineno)

    def check_Expr(self, node):
        if not isinstance(node.value, ast.Call) and not is_text(node):
            self.fault("L6", self.name, node.lineno)

    def check_Constant(self, node):
        if node.value is not None and node.value.__class__ not in (int, str, bool):
            self.fault("L7", self.name, node.lineno)
        if isinstance(node.value, str) and "%" in node.value:
            self.fault("L27", self.name, node.lineno)
        if isinstance(node.value, int) and abs(node.value) >= 10 ** 900:
            self.fault("L27", self.name, node.lineno)

    def check_BinOp(self, node):
        if isinstance(node.op, (ast.Div, ast.MatMult)):
            self.fault("L7", self.name, node.lineno)
        if isinstance(node.op, ast.Pow):
            self.fault("L27", self.name, node.lineno)

    def check_AugAssign(self, node):
        if isinstance(node.op, (ast.Div, ast.MatMult, ast.Pow)):
            self.fault("L7", self.name, node.lineno)

    def check_Compare(self, node):
        for op, side in zip(node.ops, node.comparators):
            if isinstance(op, (ast.Is, ast.IsNot)) and not (isinstance(side, ast.Constant) and side.value is None):
                self.fault("L20", self.name, node.lineno)

    def check_ListComp(self, node):
        if len(node.generators) != 1 or len(node.generators[0].ifs) > 1:
            self.fault("L7", self.name, node.lineno)


def is_text(node):
    return isinstance(node, ast.Expr) and isinstance(node.value, ast.Constant) and isinstance(node.value.value, str)


def is_plain(node, functions, outermost):
    """A plain value of a file's top; lists and dicts stand outermost alone (L15)."""
    if isinstance(node, ast.UnaryOp) and isinstance(node.op, ast.USub):
        return isinstance(node.operand, ast.Constant)
    if isinstance(node, ast.Constant):
        return True
    if isinstance(node, ast.Name):
        return node.id in functions and not outermost
    if isinstance(node, ast.Tuple) or outermost and isinstance(node, ast.List):
        return all(is_plain(part, functions, False) for part in node.elts)
    if outermost and isinstance(node, ast.Dict):
        return all(is_plain(part, functions, False) for part in node.keys + node.values)
    return False


def faults(files):
    return sorted(Checker(files).found)


# For each rule a text of a file that breaks it.
BROKEN = [
    ("L2", "import sys\n"),
    ("L2", "from sys import path\n"),
    ("L2", "from .other import path\n"),
    ("L2", "def go():\n    from meterbookdesk.other import kept\n    return kept\n"),
    ("L3", "A = 1 + 1\n"),
    ("L3", "A = len([1])\n"),
    ("L3", "A = 1\nB = (A, 2)\n"),
    ("L3", "A = [[1], [2]]\n"),
    ("L3", "if True:\n    A = 1\n"),
    ("L4", "def go(*rest):\n    return rest\n"),
    ("L4", "def go(**rest):\n    return rest\n"),
    ("L4", "def go(*, rest):\n    return rest\n"),
    ("L4", "def near(a):\n    return a\n\n\n@near\ndef go(a):\n    return a\n"),
    ("L5", "class Thing:\n    size = 1\n"),
    ("L6", "def go(a):\n    del a[0]\n"),
    ("L6", "def go(a):\n    b = c = a\n    return b + c\n"),
    ("L6", "def go(a):\n    b, c = a\n    return b + c\n"),
    ("L6", "def go(a):\n    for b in a:\n        pass\n    else:\n        pass\n"),
    ("L6", "def go(a):\n    assert a\n"),
    ("L6", "def go(a):\n    with a:\n        pass\n"),
    ("L6", "def go(a):\n    a + 1\n"),
    ("L7", "def go(a):\n    return a / 2\n"),
    ("L7", "def go(a):\n    return a * 0.5\n"),
    ("L7", "def go(a):\n    return b''\n"),
    ("L7", "def go(a):\n    return [c for b in a for c in b]\n"),
    ("L7", "def go(a):\n    return {b: 1 for b in a}\n"),
    ("L7", "def go(a):\n    return sum(b for b in a)\n"),
    ("L8", "def go(a):\n    return round(a)\n"),
    ("L8", "def go(a):\n    print(a)\n"),
    ("L10", "def go(a):\n" + "    a += 1\n" * 40),
    ("L10", "A = 1\n" + "# line\n" * 400),
    ("L10", "# " + "x" * 119 + "\n"),
    ("L10", "def go(a):\n\treturn a\n"),
    ("L12", "def go(a):\n    _b = a\n    return _b\n"),
    ("L14", "# \u00e4\n"),
    ("L15", "A = 1\nA = 2\n"),
    ("L15", "def go(a):\n    next = a\n    return next\n"),
    ("L15", "A = [1]\n\n\ndef go():\n    A.append(2)\n"),
    ("L15", "A = [1]\n\n\ndef go():\n    A[0] = 2\n"),
    ("L15", "A = [1]\n\n\ndef go():\n    return A\n"),
    ("L15", "from meterbookdesk.other import kept\n\n\ndef go(kept):\n    return kept\n"),
    ("L16", "from meterbookdesk.other import lost\n"),
    ("L16", "from meterbookdesk.probe import go\n\n\ndef go_on():\n    return go()\n"),
    ("L17", "# a type of thing\n"),
    ("L17", "def quit(a):\n    return a\n"),
    ("L18", "class Thing:\n    def size(self):\n        self.size = 1\n"),
    ("L18", "class Thing:\n    def size(self):\n        return 1\n\n    def size(self):\n        return 2\n"),
    ("L20", "def go(a, b):\n    return a is b\n"),
    ("L21", "def go(a: int):\n    return a\n"),
    ("L22", "def go(a):\n    return sorted(a, reverse=True)\n"),
    ("L22", "def go(a):\n    b = len\n    return b(a)\n"),
    ("L23", "def go(a):\n    b = zip(a, a)\n    return b\n"),
    ("L23", "def go(a):\n    for b in a:\n        a.append(b)\n"),
    ("L23", "def go(a):\n    for b in a.items():\n        a.pop(b)\n"),
    ("L23", "def go(a):\n    for b, c in enumerate(a):\n        a[b] = c\n"),
    ("L7", "def go(a):\n    return {a, 1}\n"),
    ("L8", "def go(a):\n    return set(a)\n"),
    ("L25", "def go(a):\n    a.sort()\n"),
    ("L25", "def go(a):\n    b = a.append\n    return b\n"),
    ("L26", "class Thing:\n    def __init__(self):\n        self.items = 1\n"),
    ("L27", "def go(a):\n    return 2 ** a\n"),
    ("L27", "A = 'a %'\n"),
    ("L28", "class Thing:\n    def __init__(self):\n        return None\n"),
    ("L6", "def go(a):\n    try:\n        return a[0]\n    except IndexError:\n        return 0\n"),
]
OTHER = "kept = 1\n"


class TestChecker(unittest.TestCase):
    def test_each_broken_text_is_found(self):
        for rule, text in BROKEN:
            with self.subTest(rule=rule, text=text):
                found = faults({"probe.py": text, "other.py": OTHER})
                self.assertIn(rule, [fault[0] for fault in found])

    def test_file_names(self):
        for name, rule in (("notes.txt", "L1"), ("Big.py", "L1"), ("a-b.py", "L1"), ("tests.py", "L14"),
                           ("range.py", "L14"), ("test_it.py", "L14")):
            self.assertIn(rule, [fault[0] for fault in faults({name: "A = 1\n"})])

    def test_a_kept_text_is_not_found(self):
        text = (
            '"""A file."""\n\nfrom meterbookdesk.other import kept\n\nPAIRS = {1: (2, 3)}\n\n\n'
            'def go(rows, most=3):\n    """Go."""\n    found = []\n    for row in rows:\n'
            '        if row in PAIRS and row is not None:\n            found.append(PAIRS[row][0] + kept)\n'
            '    return [one for one in found if one < most]\n'
        )
        self.assertEqual(faults({"probe.py": text, "other.py": OTHER}), [])


class TestPackage(unittest.TestCase):
    def test_only_files_of_python_lie_in_it(self):
        names = [path.name for path in PACKAGE.iterdir() if path.name != "__pycache__"]
        self.assertIn("__init__.py", names)
        self.assertEqual([name for name in names if not name.endswith(".py")], [])

    def test_it_keeps_to_the_rules(self):
        files = {path.name: path.read_text(encoding="utf-8") for path in sorted(PACKAGE.glob("*.py"))}
        self.assertIn("book.py", files)
        self.assertEqual(faults(files), [])


if __name__ == "__main__":
    unittest.main()
