"""The package's files keep to the rules of LANGUAGE.md, as far as a plain look at them can tell."""

import ast
import builtins
import pathlib
import re
import unittest

PACKAGE = pathlib.Path(__file__).resolve().parent.parent / "fordbook"

ERRORS = """Exception ValueError TypeError KeyError IndexError LookupError ZeroDivisionError ArithmeticError
    OverflowError RuntimeError NotImplementedError AttributeError StopIteration""".split()
# chr is listed by L8 and taken out again by L27.
BUILTINS = """len range enumerate zip min max sum abs sorted reversed int str bool list tuple dict set frozenset
    isinstance ord repr any all divmod""".split() + ERRORS
METHODS = """append clear copy count endswith extend find get index insert isalnum isalpha isdigit islower isspace
    isupper items join keys ljust lower lstrip partition pop remove replace reverse rfind rjust rpartition rsplit
    rstrip setdefault split splitlines startswith strip update upper values zfill bit_length""".split()
DUNDERS = ["__init__", "__eq__", "__repr__", "__str__", "__len__"]
WORDS = """type typing typing_extensions enum Enum IntEnum StrEnum Flag IntFlag Generic Protocol ABC ABCMeta
    namedtuple NamedTuple TypedDict TYPE_CHECKING abstractmethod""".split()
CHANGES = "append clear extend insert pop remove reverse setdefault update".split()
VALUES = "count index title find get join lower upper split strip copy add".split()
PLAIN = ["None", "True", "False"]
PARTS = ["dataclass", "overload", "contextmanager"]
UNUSED = """register mro elements open input version_info with_traceback add_note format format_map attrgetter
    breakpoint builtins compile copyright credits delattr dir eval exec exit gc getattr globals hasattr help id
    importlib license locals methodcaller os quit setattr super vars sys""".split()
FILES = "test tests testing site conftest sitecustomize usercustomize".split() + WORDS + dir(builtins)

STATEMENTS = (ast.Assign, ast.AugAssign, ast.If, ast.While, ast.For, ast.Return, ast.Break, ast.Continue, ast.Pass,
              ast.Raise, ast.Try, ast.FunctionDef, ast.ClassDef, ast.ImportFrom, ast.Expr)
EXPRESSIONS = (ast.BoolOp, ast.BinOp, ast.UnaryOp, ast.Lambda, ast.IfExp, ast.Dict, ast.Set, ast.ListComp,
               ast.Compare, ast.Call, ast.JoinedStr, ast.FormattedValue, ast.Constant, ast.Attribute, ast.Subscript,
               ast.Name, ast.List, ast.Tuple, ast.Slice)


class Look:
    """The faults of one file, as (rule, line)."""

    def __init__(self, source, methods=()):
        self.source = source
        self.methods = list(methods)
        self.tree = ast.parse(source)
        self.nodes = list(ast.walk(self.tree))
        self.defs = [node for node in self.nodes if isinstance(node, ast.FunctionDef)]
        self.imported = [name for node in self.nodes if isinstance(node, ast.ImportFrom) for name in node.names]
        self.faults = []
        for look in (self.rows, self.top, self.imports, self.statements, self.expressions, self.functions,
                     self.classes, self.names, self.keywords, self.walks, self.calls):
            look()

    def fault(self, rule, node):
        self.faults.append((rule, node if isinstance(node, int) else node.lineno))

    def rows(self):
        rows = self.source.split("\n")
        if len(rows) - 1 > 400:
            self.fault("L10", 400)
        for number, row in enumerate(rows, start=1):
            if len(row) > 120 or "\t" in row:
                self.fault("L10", number)
            if any(not " " <= sign <= "~" for sign in row):
                self.fault("L14", number)
            words = re.findall(r"\w+", row)
            if any(word in WORDS for word in words) or any(part in row for part in PARTS):
                self.fault("L17", number)

    def docstring(self, node):
        return isinstance(node, ast.Expr) and isinstance(node.value, ast.Constant) and isinstance(node.value.value, str)

    def top(self):
        bound = []
        for number, node in enumerate(self.tree.body):
            plain = isinstance(node, (ast.ImportFrom, ast.FunctionDef, ast.ClassDef, ast.Assign))
            if not plain and not (number == 0 and self.docstring(node)):
                self.fault("L3", node)
            if isinstance(node, ast.Assign):
                bound.extend(target.id for target in node.targets if isinstance(target, ast.Name))
                if any(isinstance(part, (ast.Call, ast.Set, ast.ListComp)) for part in ast.walk(node.value)):
                    self.fault("L3", node)
            elif isinstance(node, (ast.FunctionDef, ast.ClassDef)):
                bound.append(node.name)
            elif isinstance(node, ast.ImportFrom):
                bound.extend(name.name for name in node.names)
        if len(set(bound)) != len(bound):
            self.fault("L15", 1)
        self.bound = bound

    def imports(self):
        for node in self.nodes:
            if isinstance(node, ast.ImportFrom):
                if node not in self.tree.body or node.level or not node.module.startswith("fordbook."):
                    self.fault("L2", node)
                if any(name.name == "*" or name.asname for name in node.names):
                    self.fault("L2", node)

    def statements(self):
        for node in self.nodes:
            if isinstance(node, ast.stmt) and not isinstance(node, STATEMENTS):
                self.fault("L6", node)
            if isinstance(node, ast.Assign) and (len(node.targets) != 1 or isinstance(node.targets[0], ast.Tuple)):
                self.fault("L6", node)
            if isinstance(node, (ast.For, ast.While)) and node.orelse:
                self.fault("L6", node)
            if isinstance(node, ast.Try) and (node.finalbody or any(part.type is None for part in node.handlers)):
                self.fault("L6", node)
            if isinstance(node, ast.Expr) and not isinstance(node.value, ast.Call) and node != self.tree.body[0]:
                self.fault("L6", node)

    def expressions(self):
        for node in self.nodes:
            if isinstance(node, ast.expr) and not isinstance(node, EXPRESSIONS):
                self.fault("L7", node)
            if isinstance(node, ast.BinOp) and isinstance(node.op, (ast.Div, ast.MatMult)):
                self.fault("L7", node)
            if isinstance(node, ast.Constant) and not isinstance(node.value, (int, str, type(None))):
                self.fault("L7", node)
            if isinstance(node, ast.Constant) and isinstance(node.value, str) and "%" in node.value:
                self.fault("L27", node)
            if isinstance(node, ast.ListComp) and (len(node.generators) > 1 or len(node.generators[0].ifs) > 1):
                self.fault("L7", node)
            if isinstance(node, ast.Compare):
                sides = [node.left] + node.comparators
                plain = [isinstance(side, ast.Constant) and repr(side.value) in PLAIN for side in sides]
                if any(isinstance(op, (ast.Is, ast.IsNot)) for op in node.ops) and not any(plain):
                    self.fault("L20", node)
            if isinstance(node, ast.BinOp) and isinstance(node.op, ast.Pow):
                written = isinstance(node.right, ast.Constant) and node.right.value in range(65)
                if not written:
                    self.fault("L27", node)

    def functions(self):
        for node in self.defs:
            given = node.args
            if given.vararg or given.kwarg or given.kwonlyargs or given.posonlyargs or node.decorator_list:
                self.fault("L4", node)
            if node.end_lineno - node.lineno >= 40:
                self.fault("L10", node)
            if node.returns or any(part.annotation for part in given.args):
                self.fault("L21", node)

    def classes(self):
        for node in self.nodes:
            if not isinstance(node, ast.ClassDef):
                continue
            if node not in self.tree.body:
                self.fault("L15", node)
            if len(node.bases) > 1 or node.keywords or node.decorator_list:
                self.fault("L5", node)
            if not all(isinstance(part, (ast.FunctionDef, ast.Pass)) for part in node.body):
                self.fault("L5", node)

    def names(self):
        methods = [part for node in self.nodes if isinstance(node, ast.ClassDef) for part in node.body]
        local = [node.id for node in self.nodes if isinstance(node, ast.Name) and isinstance(node.ctx, ast.Store)]
        local += [node.arg for node in self.nodes if isinstance(node, ast.arg)]
        local += [node.name for node in self.defs if node not in methods]
        local += [node.name for node in self.nodes if isinstance(node, ast.ExceptHandler) and node.name]
        for name in local:
            if name.startswith("_") or not name.isascii():
                self.fault("L12", 1)
            if name in dir(builtins):
                self.fault("L15", 1)
        self.shadows()
        for node in methods:
            if isinstance(node, ast.FunctionDef) and node.name.startswith("_") and node.name not in DUNDERS:
                self.fault("L12", node)
        known = set(local) | set(self.bound) | set(BUILTINS)
        for node in self.nodes:
            if isinstance(node, ast.Name) and node.id not in known:
                self.fault("L8", node)
            if any(getattr(node, part, "") in UNUSED for part in ("id", "attr", "arg", "name")):
                self.fault("L17", node)

    def shadows(self):
        # Narrower than L15, which lets a local be called like a def of its file.
        for top in self.tree.body:
            if not isinstance(top, (ast.FunctionDef, ast.ClassDef)):
                continue
            for node in ast.walk(top):
                stored = node.id if isinstance(node, ast.Name) and isinstance(node.ctx, ast.Store) else ""
                if (node.arg if isinstance(node, ast.arg) else stored) in self.bound:
                    self.fault("L15", node)

    def values(self):
        return [node.attr for node in self.nodes if isinstance(node, ast.Attribute) and isinstance(node.ctx, ast.Store)]

    def keywords(self):
        allowed = {"sorted": ("key", "reverse"), "min": ("key", "default"), "max": ("key", "default"),
                   "sum": ("start",), "enumerate": ("start",), "zip": ("strict",)}
        for node in self.nodes:
            if isinstance(node, ast.Call):
                name = node.func.id if isinstance(node.func, ast.Name) else node.func.attr
                if name in BUILTINS + METHODS and any(part.arg not in allowed.get(name, ()) for part in node.keywords):
                    self.fault("L22", node)
            if isinstance(node, ast.FormattedValue):
                if not isinstance(node.value, ast.Name) or node.format_spec or node.conversion not in (-1, 114):
                    self.fault("L7", node)
        for name in self.values():
            kinds = (str, int, list, tuple, dict, set, bytes)
            if any(name in dir(kind) for kind in kinds) and name not in VALUES:
                self.fault("L26", 1)

    def walks(self):
        for node in self.nodes:
            # Narrower than L24: no set at all.
            if isinstance(node, ast.Set) or isinstance(node, ast.Name) and node.id in ("set", "frozenset"):
                self.fault("L24", node)
            if not isinstance(node, ast.For):
                continue
            walked = {part.id for part in ast.walk(node.iter) if isinstance(part, ast.Name)}
            for part in [part for row in node.body for part in ast.walk(row)]:
                changed = isinstance(part, ast.Call) and isinstance(part.func, ast.Attribute)
                if changed and part.func.attr in CHANGES and getattr(part.func.value, "id", "") in walked:
                    self.fault("L23", part)
                stored = isinstance(part, ast.Subscript) and isinstance(part.ctx, ast.Store)
                if stored and getattr(part.value, "id", "") in walked:
                    self.fault("L23", part)

    def calls(self):
        own = self.methods + [node.name for node in self.defs]
        walked = ("zip", "enumerate", "reversed", "range")
        for node in self.nodes:
            if isinstance(node, ast.Call) and isinstance(node.func, ast.Attribute):
                if node.func.attr not in METHODS + own + ["__init__"]:
                    self.fault("L25", node)
            kept = isinstance(node, (ast.Assign, ast.Return)) and isinstance(node.value, ast.Call)
            if kept and isinstance(node.value.func, ast.Name) and node.value.func.id in walked:
                self.fault("L23", node)
            if isinstance(node, ast.ExceptHandler) and isinstance(node.type, ast.Name):
                if node.type.id in ("Exception", "TypeError"):
                    self.fault("L19", node)


# Each is refused by the rule beside it, so that the look itself is known to see.
BROKEN = [
    ("L2", "from os import path"), ("L2", "from .errors import NoNet"), ("L2", "from fordbook.errors import *"),
    ("L2", "def f():\n    from fordbook.errors import NoNet"), ("L6", "import sys"), ("L3", "print(1)"),
    ("L3", "NAMES = list(range(3))"), ("L3", "if True:\n    A = 1"), ("L4", "def f(*xs):\n    return 1"),
    ("L4", "def f(x, *, y):\n    return 1"), ("L5", "class A:\n    x = 1"), ("L6", "def f():\n    yield 1"),
    ("L6", "def f(x):\n    del x"), ("L6", "def f():\n    global x"), ("L6", "def f():\n    x = y = 1"),
    ("L6", "def f(x):\n    assert x"), ("L6", "def f():\n    'told'\n    return 1"),
    ("L6", "def f(x):\n    for k in x:\n        pass\n    else:\n        pass"),
    ("L7", "def f(x):\n    return x / 2"), ("L7", "def f():\n    return 1.5"), ("L7", "def f(x):\n    return f(*x)"),
    ("L7", "def f(x):\n    return all(k for k in x)"), ("L7", "def f(x):\n    return {k for k in x}"),
    ("L7", "def f(x):\n    return [k for j in x for k in j]"), ("L8", "def f(x):\n    return map(f, x)"),
    ("L8", "def f(x):\n    return hash(x)"), ("L10", "X = 1" + " " * 120), ("L10", "def f():\n\treturn 1"),
    ("L10", "def f():\n" + "    f()\n" * 40), ("L10", "X = 1\n" + "\n" * 400), ("L12", "def f(_x):\n    return 1"),
    ("L14", "# \u00e4"), ("L15", "def f(min):\n    return 1"), ("L15", "X = 1\nX = 2"), ("L17", "# a type"),
    ("L17", "def f(x):\n    return x.open"), ("L17", "class A:\n    def open(self):\n        pass"),
    ("L19", "def f():\n    try:\n        f()\n    except Exception:\n        pass"),
    ("L20", "def f(x, y):\n    return x is y"), ("L20", "def f(x):\n    return x is 0"), ("L21", "def f(x: int):\n    return x"),
    ("L6", "def f(x):\n    y, z = x"), ("L15", "from fordbook.clocks import come\ndef f(come):\n    return 1"),
    ("L15", "class A:\n    pass\ndef f():\n    A = 1"), ("L22", "def f(x):\n    return x.split(sep='a')"),
    ("L22", "def f(x):\n    return len(obj=x)"), ("L7", "def f(x):\n    return f'{x + 1}'"),
    ("L7", "def f(x):\n    return f'{x:>3}'"), ("L24", "def f(x):\n    return set(x)"),
    ("L26", "class A:\n    def __init__(self):\n        self.items = 1"),
    ("L23", "def f(x):\n    for k in x:\n        x.pop()"),
    ("L23", "def f(x):\n    for k, v in enumerate(x):\n        x[k] = 1"),
    ("L23", "def f(x):\n    return reversed(x)"), ("L25", "def f(x):\n    x.sort()"),
    ("L27", "def f(n):\n    return 2 ** n"), ("L27", "X = 'a%b'"),
]


class TestLanguage(unittest.TestCase):

    def files(self):
        return sorted(path for path in PACKAGE.iterdir() if path.name != "__pycache__")

    def test_the_folder_holds_plain_files_alone(self):
        names = [path.name for path in self.files()]
        self.assertIn("__init__.py", names)
        for path in self.files():
            self.assertTrue(path.is_file(), path.name)
            self.assertRegex(path.name, r"\A(__init__|__main__|[a-z][a-z0-9_]*)\.py\Z")
            self.assertNotIn(path.stem, FILES)
            self.assertFalse(path.stem.startswith("test_"), path.name)

    def test_every_file_keeps_to_the_rules(self):
        sources = {path.name: path.read_text(encoding="utf-8") for path in self.files()}
        methods = [node.name for source in sources.values() for node in Look(source).defs]
        for name, source in sources.items():
            self.assertEqual(Look(source, methods).faults, [], name)

    def test_no_name_is_a_method_here_and_a_value_there(self):
        looks = [Look(path.read_text(encoding="utf-8")) for path in self.files()]
        classes = [node for look in looks for node in look.nodes if isinstance(node, ast.ClassDef)]
        methods = {part.name for node in classes for part in node.body if isinstance(part, ast.FunctionDef)}
        self.assertEqual(methods & {name for look in looks for name in look.values()}, set())

    def test_a_name_is_drawn_from_the_file_that_defines_it_and_none_in_a_ring(self):
        drawn = {}
        for path in self.files():
            look = Look(path.read_text(encoding="utf-8"))
            drawn[path.stem] = []
            for node in look.tree.body:
                if isinstance(node, ast.ImportFrom):
                    source = node.module.split(".")[1]
                    drawn[path.stem].append(source)
                    other = Look((PACKAGE / (source + ".py")).read_text(encoding="utf-8"))
                    own = set(other.bound) - {name.name for name in other.imported}
                    self.assertLessEqual({name.name for name in node.names}, own, path.name)
        while drawn:
            free = [stem for stem in drawn if not any(source in drawn for source in drawn[stem])]
            self.assertTrue(free, "a ring: " + " ".join(drawn))
            for stem in free:
                drawn.pop(stem)

    def test_the_look_sees_what_is_broken(self):
        for rule, source in BROKEN:
            self.assertIn(rule, [found for found, line in Look(source).faults], source)


if __name__ == "__main__":
    unittest.main()
