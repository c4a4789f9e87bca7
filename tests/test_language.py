"""The package keeps to the small part of Python that its rules L1 to L28 tell, as far as a look at its files can see."""

import ast
import builtins
import re
import unittest
from pathlib import Path

PACKAGE = Path(__file__).resolve().parent.parent / "gatepapers"
FILES = sorted(PACKAGE.glob("*.py"))

OWN_NAMES = (
    "len range enumerate zip min max sum abs sorted reversed int str bool bytes list tuple dict set frozenset "
    "isinstance ord repr any all divmod Exception ValueError TypeError KeyError IndexError LookupError "
    "ZeroDivisionError ArithmeticError OverflowError RuntimeError NotImplementedError AttributeError StopIteration"
).split()
METHODS = (
    "append clear copy count endswith extend find get index insert isalnum isalpha isdigit islower isspace isupper "
    "items join keys ljust lower lstrip partition pop remove replace reverse rfind rjust rpartition rsplit rstrip "
    "setdefault split splitlines startswith strip update upper values zfill bit_length add discard sort __init__"
).split()
NO_WORDS = (
    "type typing typing_extensions enum Enum IntEnum StrEnum Flag IntFlag Generic Protocol ABC ABCMeta namedtuple "
    "NamedTuple TypedDict TYPE_CHECKING abstractmethod"
).split()
NO_NAMES = (
    "register mro elements open input version_info with_traceback add_note attrgetter breakpoint builtins compile "
    "copyright credits delattr dir eval exec exit gc getattr globals hasattr help id importlib license locals "
    "methodcaller os quit setattr super type vars sys format format_map"
).split()
NO_NODES = (
    ast.With, ast.Match, ast.Global, ast.Nonlocal, ast.Yield, ast.YieldFrom, ast.AsyncFunctionDef, ast.AsyncFor,
    ast.AsyncWith, ast.Await, ast.GeneratorExp, ast.NamedExpr, ast.Starred, ast.Import, ast.Div, ast.MatMult,
)
LAZY_NAMES = ("zip", "enumerate", "reversed", "range")
LAZY_METHODS = ("items", "keys", "values")
WALKERS = ("list", "tuple", "dict", "sorted", "sum", "any", "all", "enumerate", "zip", "bytes")
CHANGES = ("append", "clear", "extend", "insert", "pop", "remove", "reverse", "setdefault", "update", "sort")


def trees():
    return [(path, ast.parse(path.read_text("utf-8"))) for path in FILES]


def nodes():
    return [(f"{path.name}:{getattr(node, 'lineno', 0)}", node) for path, tree in trees() for node in ast.walk(tree)]


def called(node):
    """The name that a call calls, or None."""
    if not isinstance(node, ast.Call):
        return None
    return node.func.id if isinstance(node.func, ast.Name) else getattr(node.func, "attr", None)


def lazy(node):
    """Whether a node is a call that is to be walked on the spot; a def of the package's own may be called values."""
    if not isinstance(node, ast.Call):
        return False
    return called(node) in (LAZY_NAMES if isinstance(node.func, ast.Name) else LAZY_METHODS)


class Files(unittest.TestCase):
    def test_only_plain_files(self):
        names = [path.name for path in PACKAGE.iterdir() if path.name != "__pycache__"]
        self.assertIn("__init__.py", names)
        for name in names:
            self.assertRegex(name, r"^(__init__|[a-z][a-z0-9_]*)\.py$")
            self.assertTrue(name == "__init__.py" or name[:-3] not in dir(builtins), name)

    def test_signs_lines_and_words(self):
        for path in FILES:
            text = path.read_text("utf-8")
            self.assertRegex(text, r"\A[ -~\n]*\Z", path.name)
            self.assertLessEqual(len(text.splitlines()), 400)
            for line in text.splitlines():
                self.assertLessEqual(len(line), 120, f"{path.name}: {line}")
            for word in NO_WORDS:
                self.assertIsNone(re.search(rf"\b{word}\b", text), f"{path.name}: {word}")
            for word in ("dataclass", "overload", "contextmanager"):
                self.assertNotIn(word, text)

    def test_functions_are_short(self):
        for where, node in nodes():
            if isinstance(node, ast.FunctionDef):
                self.assertLessEqual(node.end_lineno - node.lineno + 1, 40, where)

    def test_no_rings_of_imports(self):
        draws = {path.stem: {node.module.split(".")[-1] for node in ast.walk(tree) if isinstance(node, ast.ImportFrom)}
                 for path, tree in trees()}
        while draws:
            free = [name for name in draws if not draws[name] & set(draws)]
            self.assertTrue(free, draws)
            for name in free:
                del draws[name]


class Forms(unittest.TestCase):
    def test_the_top_of_a_file(self):
        for path, tree in trees():
            names = []
            for node in tree.body:
                self.assertIsInstance(node, (ast.Expr, ast.ImportFrom, ast.FunctionDef, ast.ClassDef, ast.Assign), path.name)
                if isinstance(node, ast.Expr):
                    self.assertIsInstance(node.value, ast.Constant)
                if isinstance(node, ast.Assign):
                    self.assertEqual(len(node.targets), 1)
                    names.append(node.targets[0].id)
                    for inner in ast.walk(node.value):
                        self.assertNotIsInstance(inner, (ast.Call, ast.Set, ast.ListComp, ast.DictComp, ast.Lambda))
                if isinstance(node, (ast.FunctionDef, ast.ClassDef)):
                    names.append(node.name)
                if isinstance(node, ast.ImportFrom):
                    names.extend([alias.asname or alias.name for alias in node.names])
            self.assertEqual(len(names), len(set(names)), path.name)

    def test_imports(self):
        for where, node in nodes():
            if isinstance(node, ast.ImportFrom):
                self.assertEqual((node.level, node.module.split(".")[0]), (0, "gatepapers"), where)
                top = ast.parse((PACKAGE / f"{node.module.split('.')[1]}.py").read_text("utf-8")).body
                defined = [one.name for one in top if isinstance(one, (ast.FunctionDef, ast.ClassDef))]
                defined += [one.targets[0].id for one in top if isinstance(one, ast.Assign)]
                for alias in node.names:
                    self.assertIn(alias.name, defined, where)

    def test_no_forms_that_are_out(self):
        for where, node in nodes():
            self.assertNotIsInstance(node, NO_NODES, where)
            if isinstance(node, (ast.For, ast.While)):
                self.assertFalse(node.orelse, where)
            if isinstance(node, (ast.FunctionDef, ast.ClassDef)):
                self.assertFalse(node.decorator_list, where)
            if isinstance(node, ast.arguments):
                self.assertFalse(node.vararg or node.kwarg or node.posonlyargs, where)
            if isinstance(node, ast.ExceptHandler):
                self.assertIsNotNone(node.type, where)
            if isinstance(node, ast.FormattedValue):
                self.assertIsNone(node.format_spec, where)
            if isinstance(node, ast.BinOp) and isinstance(node.op, ast.Pow):
                self.assertIsInstance(node.right, ast.Constant, where)
            if isinstance(node, ast.Compare) and any([isinstance(op, (ast.Is, ast.IsNot)) for op in node.ops]):
                self.assertIsInstance(node.comparators[0], ast.Constant, where)
            if isinstance(node, ast.Constant):
                self.assertNotIsInstance(node.value, (float, complex), where)
                self.assertFalse(isinstance(node.value, str) and "%" in node.value, where)

    def test_names(self):
        known = dir(builtins)
        for where, node in nodes():
            given = []
            if isinstance(node, ast.Name):
                given.append(node.id)
                if node.id in known:
                    self.assertIn(node.id, OWN_NAMES, where)
                    self.assertIsInstance(node.ctx, ast.Load, where)
            if isinstance(node, ast.arg):
                given.append(node.arg)
                self.assertNotIn(node.arg, known, where)
            if isinstance(node, (ast.FunctionDef, ast.ClassDef)):
                given.append(node.name)
                self.assertNotIn(node.name, known, where)
            if isinstance(node, ast.Attribute):
                given.append(node.attr)
            for name in given:
                self.assertNotIn(name, NO_NAMES, where)
                self.assertTrue(name == "__init__" or not name.startswith("_"), where)

    def test_locals_do_not_hide_imports_and_classes(self):
        for path, tree in trees():
            tops = [alias.name for node in tree.body if isinstance(node, ast.ImportFrom) for alias in node.names]
            tops += [node.name for node in tree.body if isinstance(node, ast.ClassDef)]
            for node in ast.walk(tree):
                if isinstance(node, ast.Name) and isinstance(node.ctx, ast.Store):
                    self.assertNotIn(node.id, tops, path.name)
                if isinstance(node, ast.arg):
                    self.assertNotIn(node.arg, tops, path.name)


class Things(unittest.TestCase):
    def test_methods_and_values(self):
        methods, values = set(), set()
        for where, node in nodes():
            if isinstance(node, ast.ClassDef):
                self.assertLessEqual(len(node.bases), 1, where)
                for inner in node.body:
                    self.assertIsInstance(inner, (ast.FunctionDef, ast.Expr), where)
                methods.update([inner.name for inner in node.body if isinstance(inner, ast.FunctionDef)])
            if isinstance(node, ast.Attribute) and isinstance(node.ctx, ast.Store):
                values.add(node.attr)
        self.assertFalse(methods & values)
        taken = {name for kind in (str, int, list, dict, set, bytes) for name in dir(kind)}
        self.assertFalse((methods | values) & taken - {"__init__"})
        for where, node in nodes():
            if isinstance(node, ast.Attribute):
                self.assertIn(node.attr, methods | values | set(METHODS), where)

    def test_lists_and_dicts_of_a_top_hold_none_and_are_not_handed_on(self):
        for path, tree in trees():
            kept = {}
            for node in tree.body:
                if isinstance(node, ast.Assign) and isinstance(node.value, (ast.List, ast.Dict)):
                    kept[node.targets[0].id] = node
                    inner = [one for one in ast.walk(node.value) if isinstance(one, (ast.List, ast.Dict))]
                    self.assertEqual(len(inner), 1, path.name)
            for node in ast.walk(tree):
                things = node.args if isinstance(node, ast.Call) and called(node) not in ("len", "list", "dict") else []
                things = things + ([node.value] if isinstance(node, (ast.Return, ast.Assign)) else [])
                for thing in things:
                    self.assertFalse(isinstance(thing, ast.Name) and thing.id in kept, path.name)

    def test_walks_and_sets_on_the_spot(self):
        for where, node in nodes():
            walked = []
            if isinstance(node, (ast.For, ast.comprehension)):
                walked.append(node.iter)
            if isinstance(node, ast.Call) and called(node) in WALKERS:
                walked.extend(node.args[:1])
            for inner in ast.iter_child_nodes(node):
                self.assertTrue(not lazy(inner) or inner in walked, where)
            if isinstance(node, (ast.For, ast.comprehension)):
                self.assertNotIn(called(node.iter), ("set", "frozenset"), where)
                self.assertNotIsInstance(node.iter, (ast.Set, ast.SetComp), where)

    def test_what_is_walked_is_not_changed(self):
        for where, node in nodes():
            if isinstance(node, ast.For):
                inner = [node.iter] + (node.iter.args if isinstance(node.iter, ast.Call) else [])
                names = [one.id for one in inner if isinstance(one, ast.Name)]
                for one in [one for row in node.body for one in ast.walk(row)]:
                    if isinstance(one, ast.Attribute) and one.attr in CHANGES and isinstance(one.value, ast.Name):
                        self.assertNotIn(one.value.id, names, where)
                    if isinstance(one, ast.Subscript) and isinstance(one.ctx, ast.Store) and isinstance(one.value, ast.Name):
                        self.assertNotIn(one.value.id, names, where)

    def test_errors_are_made_on_the_spot_with_texts(self):
        for where, node in nodes():
            if isinstance(node, ast.Raise):
                self.assertIsInstance(node.exc, ast.Call, where)
                for thing in node.exc.args:
                    self.assertIsInstance(thing, (ast.Constant, ast.JoinedStr), where)
