"""The form of the package's files, as far as it can be read off them: LANGUAGE.md, L1 to L28."""

import ast
import builtins
import pathlib
import re
import unittest

FOLDER = pathlib.Path(__file__).resolve().parent.parent / "contactnets"
FILES = sorted(FOLDER.rglob("*.py"))

NODES = set("""Module FunctionDef ClassDef arguments arg Return Assign AugAssign For While If Raise Try ExceptHandler
ImportFrom alias Expr Pass Break Continue BoolOp And Or BinOp Add Sub Mult FloorDiv Mod Pow LShift RShift BitOr BitXor
BitAnd UnaryOp Not USub Invert Lambda IfExp List Tuple Dict ListComp comprehension Compare Eq NotEq Lt LtE Gt GtE Is
IsNot In NotIn Call keyword JoinedStr FormattedValue Constant Attribute Subscript Slice Name Load Store""".split())
OWN_NAMES = set("""len range enumerate zip min max sum abs sorted reversed int str bool list tuple dict set frozenset
isinstance ord repr any all divmod Exception ValueError TypeError KeyError IndexError LookupError ZeroDivisionError
ArithmeticError OverflowError RuntimeError NotImplementedError AttributeError StopIteration""".split())
METHODS = set("""append clear copy count endswith extend find get index insert isalnum isalpha isdigit islower isspace
isupper items join keys ljust lower lstrip partition pop remove replace reverse rfind rjust rpartition rsplit rstrip
setdefault split splitlines startswith strip update upper values zfill bit_length""".split())
UNDERSCORED = ("__init__", "__eq__", "__repr__", "__str__", "__len__")
OWN_VALUES = set("""items keys values pop update append clear extend insert remove reverse setdefault sort args
encode""".split())
WALKED = ("zip", "enumerate", "reversed", "range", "items", "keys", "values")
WALKERS = ("list", "tuple", "dict", "sorted", "sum", "any", "all", "enumerate", "zip", "min", "max", "join")
WORDS = re.compile(r"\b(type|typing|typing_extensions|enum|Enum|IntEnum|StrEnum|Flag|IntFlag|Generic|Protocol|ABC|"
                   r"ABCMeta|namedtuple|NamedTuple|TypedDict|TYPE_CHECKING|abstractmethod)\b|"
                   r"dataclass|overload|contextmanager")
NOT_USED = set("""register mro elements open input version_info with_traceback add_note format format_map sort
attrgetter gc importlib methodcaller os sys""".split())


def called(node):
    if isinstance(node, ast.Call) and isinstance(node.func, ast.Name):
        return node.func.id
    if isinstance(node, ast.Call) and isinstance(node.func, ast.Attribute):
        return node.func.attr
    return None


def bound_names(node):
    if isinstance(node, ast.Name) and isinstance(node.ctx, ast.Store):
        return [node.id]
    if isinstance(node, ast.arg):
        return [node.arg]
    if isinstance(node, (ast.FunctionDef, ast.ClassDef)):
        return [node.name]
    if isinstance(node, ast.ExceptHandler) and node.name:
        return [node.name]
    return []


def is_plain_value(node, defined):
    if isinstance(node, ast.Name):
        return node.id in defined
    if isinstance(node, (ast.List, ast.Tuple)):
        return all(is_plain_value(part, defined) for part in node.elts)
    if isinstance(node, ast.Dict):
        return all(is_plain_value(part, defined) for part in node.keys + node.values)
    if isinstance(node, ast.UnaryOp):
        return isinstance(node.op, ast.USub) and is_plain_value(node.operand, defined)
    return isinstance(node, ast.Constant)


def is_only_read(parents, node):
    """Whether a name of the top is defined here, or read by an index, a walk, `in`, `len` or `get`."""
    parent = parents[node]
    if isinstance(parent, ast.Assign):
        return node in parent.targets and isinstance(parents[parent], ast.Module)
    if isinstance(parent, ast.Subscript):
        return parent.value is node and isinstance(parent.ctx, ast.Load)
    if isinstance(parent, ast.Attribute):
        return parent.attr in ("get", "index", "count", "items", "keys", "values")
    if isinstance(parent, (ast.For, ast.comprehension, ast.Compare)):
        return True
    return called(parent) in ("len", "sorted", "list", "dict", "tuple")


class File:
    def __init__(self, path):
        self.path = path
        self.text = path.read_bytes().decode("utf-8")
        self.tree = ast.parse(self.text)
        self.nodes = list(ast.walk(self.tree))
        self.parents = {}
        for node in self.nodes:
            for child in ast.iter_child_nodes(node):
                self.parents[child] = node
        self.module = "contactnets." + path.stem
        self.drawn = [node for node in self.nodes if isinstance(node, ast.ImportFrom)]
        self.top = [node.name for node in self.tree.body if isinstance(node, (ast.FunctionDef, ast.ClassDef))]
        for node in self.tree.body:
            if isinstance(node, ast.Assign):
                self.top += [target.id for target in node.targets]


class Form(unittest.TestCase):
    def setUp(self):
        self.files = [File(path) for path in FILES]

    def each_node(self, *kinds):
        return [(file, node, f"{file.path.name}:{node.lineno}") for file in self.files for node in file.nodes
                if isinstance(node, kinds)]

    def test_only_plain_files_lie_in_the_package(self):
        self.assertTrue((FOLDER / "__init__.py").is_file())
        for path in FOLDER.iterdir():
            if path.name != "__pycache__":
                self.assertRegex(path.name, r"^([a-z][a-z0-9_]*|__init__)\.py$")

    def test_signs_and_sizes(self):
        for file in self.files:
            lines = file.text.split("\n")
            self.assertLessEqual(len(lines) - 1, 400, file.path)
            for number, line in enumerate(lines, start=1):
                self.assertRegex(line, r"^[ -~]{0,120}$", f"{file.path.name}:{number}")
                self.assertIsNone(WORDS.search(line), f"{file.path.name}:{number}")
        for _, node, where in self.each_node(ast.FunctionDef):
            self.assertLessEqual(node.end_lineno - node.lineno + 1, 40, where)

    def test_the_top_of_a_file(self):
        for file in self.files:
            self.assertEqual(len(file.top), len(set(file.top)), file.path)
            self.assertIsNotNone(ast.get_docstring(file.tree), file.path)
            for node in file.tree.body[1:]:
                if isinstance(node, ast.Assign):
                    self.assertTrue(is_plain_value(node.value, file.top), f"{file.path.name}:{node.lineno}")
                else:
                    self.assertIsInstance(node, (ast.ImportFrom, ast.FunctionDef, ast.ClassDef), file.path)

    def test_imports(self):
        files = {file.module: file for file in self.files}
        done = []
        for file, node, where in self.each_node(ast.ImportFrom):
            self.assertIs(file.parents[node], file.tree, where)
            self.assertEqual(node.level, 0, where)
            self.assertIn(node.module, files, where)
            for alias in node.names:
                self.assertIn(alias.name, files[node.module].top, where)
                self.assertIsNone(alias.asname, where)
        waiting = list(self.files)
        while waiting:
            ready = [file for file in waiting if all(node.module in done for node in file.drawn)]
            self.assertTrue(ready, "files draw from one another")
            done += [file.module for file in ready]
            waiting = [file for file in waiting if file not in ready]
        self.assertEqual(files["contactnets.__init__"].drawn, [])

    def test_kinds_of_steps_and_values(self):
        for file in self.files:
            for node in file.nodes:
                where = f"{file.path.name}:{getattr(node, 'lineno', '?')}"
                self.assertIn(node.__class__.__name__, NODES, where)
                if isinstance(node, ast.Expr) and file.tree.body[:1] != [node]:
                    self.assertIsInstance(node.value, ast.Call, where)
                if isinstance(node, (ast.For, ast.While)):
                    self.assertFalse(node.orelse, where)
                if isinstance(node, ast.Try):
                    self.assertFalse(node.finalbody, where)
                if isinstance(node, ast.Assign):
                    self.assertEqual(len(node.targets), 1, where)
                if isinstance(node, ast.ListComp):
                    self.assertEqual(len(node.generators), 1, where)
                    self.assertLessEqual(len(node.generators[0].ifs), 1, where)
                if isinstance(node, ast.Constant):
                    self.assertIn(node.value.__class__, (int, str, bool, None.__class__), where)
                    self.assertNotIn("%", str(node.value), where)
                if isinstance(node, ast.BinOp) and isinstance(node.op, ast.Pow):
                    self.assertIsInstance(node.right, ast.Constant, where)

    def test_functions_and_classes(self):
        for _, node, where in self.each_node(ast.FunctionDef):
            self.assertFalse(node.decorator_list or node.returns, where)
        for file in self.files:
            for node in file.nodes:
                if isinstance(node, ast.arguments):
                    self.assertFalse(node.vararg or node.kwarg or node.kwonlyargs or node.posonlyargs, file.path)
                if isinstance(node, ast.arg):
                    self.assertIsNone(node.annotation, file.path)
        for file, node, where in self.each_node(ast.ClassDef):
            self.assertIs(file.parents[node], file.tree, where)
            self.assertFalse(node.decorator_list or node.keywords, where)
            self.assertLessEqual(len(node.bases), 1, where)
            for part in node.body:
                self.assertIsInstance(part, (ast.FunctionDef, ast.Pass), where)

    def test_names(self):
        for file in self.files:
            drawn = [alias.name for node in file.drawn for alias in node.names]
            for node in file.nodes:
                where = f"{file.path.name}:{getattr(node, 'lineno', '?')}"
                for name in bound_names(node):
                    self.assertTrue(re.match(r"^[A-Za-z]\w*$", name) or name in UNDERSCORED, where)
                    self.assertFalse(name in dir(builtins) and file.parents[node].__class__ != ast.ClassDef, where)
                    self.assertNotIn(name, NOT_USED, where)
                    self.assertNotIn(name, drawn, where)
                if isinstance(node, ast.Name):
                    self.assertNotIn(node.id, NOT_USED, where)
                    self.assertFalse(node.id in dir(builtins) and node.id not in OWN_NAMES, where)

    def test_methods(self):
        own = [node.name for _, node, _ in self.each_node(ast.FunctionDef)]
        for file, node, where in self.each_node(ast.Attribute):
            self.assertNotIn(node.attr, NOT_USED, where)
            if isinstance(file.parents[node], ast.Call) and file.parents[node].func is node:
                self.assertIn(node.attr, list(METHODS) + own, where)

    def test_is_stands_beside_none_true_and_false(self):
        for _, node, where in self.each_node(ast.Compare):
            for op, right in zip(node.ops, node.comparators):
                if isinstance(op, (ast.Is, ast.IsNot)):
                    self.assertIsInstance(right, ast.Constant, where)
                    self.assertIn(right.value, (None, True, False), where)

    def test_walked_on_the_spot(self):
        for file, node, where in self.each_node(ast.Call):
            self.assertNotIn(called(node), ("set", "frozenset"), where)
            if called(node) in WALKED:
                parent = file.parents[node]
                walked = isinstance(parent, (ast.For, ast.comprehension)) and parent.iter is node
                self.assertTrue(walked or called(parent) in WALKERS, where)

    def test_texts_with_names_in_them(self):
        for _, node, where in self.each_node(ast.FormattedValue):
            self.assertIsInstance(node.value, ast.Name, where)
            self.assertIsNone(node.format_spec, where)
            self.assertIn(node.conversion, (-1, ord("r")), where)

    def test_values_of_objects(self):
        methods = [part.name for _, node, _ in self.each_node(ast.ClassDef) for part in node.body
                   if isinstance(part, ast.FunctionDef)]
        for file, node, where in self.each_node(ast.Attribute):
            if isinstance(node.ctx, ast.Store):
                self.assertIsInstance(node.value, ast.Name, where)
                self.assertNotIn(node.value.id, file.top, where)
                self.assertNotIn(node.attr, methods, where)
                self.assertNotIn(node.attr, OWN_VALUES, where)

    def test_lists_and_dicts_of_the_top_are_only_read(self):
        for file in self.files:
            kept = {node.targets[0].id: node.value for node in file.tree.body if isinstance(node, ast.Assign)}
            for value in kept.values():
                for part in list(ast.walk(value))[1:]:
                    self.assertNotIsInstance(part, (ast.List, ast.Dict), file.path)
            for node in file.nodes:
                if isinstance(node, ast.Name) and isinstance(kept.get(node.id), (ast.List, ast.Dict)):
                    self.assertTrue(is_only_read(file.parents, node), f"{file.path.name}:{node.lineno}")

    def test_errors_are_taken_by_name(self):
        for _, node, where in self.each_node(ast.ExceptHandler):
            self.assertIsNotNone(node.type, where)
            taken = node.type.elts if isinstance(node.type, ast.Tuple) else [node.type]
            for name in taken:
                self.assertNotIn(name.id, ("Exception", "TypeError"), where)


if __name__ == "__main__":
    unittest.main()
