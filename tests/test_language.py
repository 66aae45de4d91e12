"""Rules of LANGUAGE.md that can be seen in the package's files without running them."""

import ast
import builtins
import re
import unittest
from pathlib import Path

PACKAGE = Path(__file__).resolve().parent.parent / "shelfruns"

NODES = """Module FunctionDef ClassDef arguments arg Expr Assign AugAssign If While For Return Break Continue Pass Raise
Try ExceptHandler ImportFrom alias Constant Name Attribute Subscript Slice Call List Tuple Dict ListComp comprehension
IfExp BoolOp UnaryOp BinOp Compare JoinedStr FormattedValue Lambda keyword Load Store And Or Not USub Add Sub Mult
FloorDiv Mod Pow BitAnd BitOr BitXor LShift RShift Invert Eq NotEq Lt LtE Gt GtE Is IsNot In NotIn""".split()
OWN_NAMES = """len range enumerate zip min max sum abs sorted reversed int str bool list tuple dict set frozenset isinstance
ord repr any all divmod Exception ValueError TypeError KeyError IndexError LookupError ZeroDivisionError ArithmeticError
OverflowError RuntimeError NotImplementedError AttributeError StopIteration""".split()
METHODS = """append clear copy count endswith extend find get index insert isalnum isalpha isdigit islower isspace isupper
items join keys ljust lower lstrip partition pop remove replace reverse rfind rjust rpartition rsplit rstrip setdefault
split splitlines startswith strip update upper values zfill bit_length""".split()
WORDS = """type typing typing_extensions enum Enum IntEnum StrEnum Flag IntFlag Generic Protocol ABC ABCMeta namedtuple
NamedTuple TypedDict TYPE_CHECKING abstractmethod""".split()
UNUSED_NAMES = """register mro elements open input version_info with_traceback add_note attrgetter methodcaller gc
importlib os sys builtins""".split()
WALKED = ("range", "enumerate", "zip", "reversed")
WALKERS = ("list", "tuple", "dict", "sorted", "sum", "any", "all", "enumerate", "zip", "min", "max")


def package_files():
    return sorted(path for path in PACKAGE.rglob("*") if "__pycache__" not in path.parts)


def nodes_of(path):
    return list(ast.walk(ast.parse(path.read_text(encoding="ascii"))))


def names_bound(nodes):
    for node in nodes:
        if isinstance(node, ast.Name) and isinstance(node.ctx, ast.Store):
            yield node.id
        elif isinstance(node, ast.arg):
            yield node.arg
        elif isinstance(node, (ast.FunctionDef, ast.ClassDef)):
            yield node.name


def names_at_top(module):
    for node in module.body:
        yield from names_bound([node] + (node.targets if isinstance(node, ast.Assign) else []))


def is_docstring(node):
    return isinstance(node, ast.Expr) and isinstance(node.value, ast.Constant) and isinstance(node.value.value, str)


def classes_of_package():
    return [node for path in package_files() for node in nodes_of(path) if isinstance(node, ast.ClassDef)]


def values_given(nodes):
    return {node.attr for node in nodes if isinstance(node, ast.Attribute) and isinstance(node.ctx, ast.Store)}


def walked_on_the_spot(nodes):
    for node in nodes:
        if isinstance(node, (ast.For, ast.comprehension)):
            yield node.iter
        elif isinstance(node, ast.Call) and isinstance(node.func, ast.Name) and node.func.id in WALKERS:
            yield from node.args if node.func.id == "zip" else node.args[:1]


class Language(unittest.TestCase):
    def each(self):
        for path in package_files():
            yield path, nodes_of(path)

    def test_files(self):
        for path in package_files():
            self.assertTrue(path.is_file(), path)
            self.assertRegex(path.name, r"^(__init__|[a-z][a-z0-9_]*)\.py$")
            self.assertFalse(path.stem in dir(builtins) or path.stem.startswith("test"), path)

    def test_signs_and_sizes(self):
        for path in package_files():
            text = path.read_bytes().decode("ascii")
            self.assertRegex(text, r"\A[\n -~]*\Z")
            rows = text.splitlines()
            self.assertLessEqual(len(rows), 400)
            self.assertLessEqual(max(map(len, rows)), 120)
            for node in nodes_of(path):
                if isinstance(node, ast.FunctionDef):
                    self.assertLessEqual(node.end_lineno - node.lineno + 1, 40, node.name)

    def test_words(self):
        for path in package_files():
            text = path.read_text()
            self.assertEqual([word for word in WORDS if re.search(rf"\b{word}\b", text)], [], path)
            self.assertIsNone(re.search("dataclass|overload|contextmanager", text), path)

    def test_forms(self):
        for path, nodes in self.each():
            for node in nodes:
                self.assertIn(node.__class__.__name__, NODES, getattr(node, "lineno", path))
                if isinstance(node, ast.Assign):
                    self.assertEqual(len(node.targets), 1)
                if isinstance(node, (ast.For, ast.While)):
                    self.assertEqual(node.orelse, [])
                if isinstance(node, ast.ListComp):
                    self.assertEqual(len(node.generators), 1)
                    self.assertLessEqual(len(node.generators[0].ifs), 1)
                if isinstance(node, (ast.FunctionDef, ast.ClassDef)):
                    self.assertEqual(node.decorator_list, [])
                if isinstance(node, ast.arguments):
                    self.assertFalse(node.vararg or node.kwarg or node.kwonlyargs or node.posonlyargs)
                if isinstance(node, ast.FormattedValue):
                    self.assertIsInstance(node.value, ast.Name)
                if isinstance(node, ast.Constant):
                    self.assertIn(node.value.__class__, (int, str, bool, None.__class__))
                    self.assertFalse(isinstance(node.value, str) and "%" in node.value)

    def test_names(self):
        for path, nodes in self.each():
            bound = set(names_bound(nodes))
            self.assertEqual(sorted(bound & set(dir(builtins))), [], path)
            self.assertEqual([name for name in sorted(bound) if name.startswith("_") and name != "__init__"], [])
            used = {node.id for node in nodes if isinstance(node, ast.Name)}
            self.assertEqual(sorted((used & set(dir(builtins))) - set(OWN_NAMES)), [], path)
            attributes = {node.attr for node in nodes if isinstance(node, ast.Attribute)}
            self.assertEqual(sorted((used | attributes | bound) & set(UNUSED_NAMES)), [], path)
            imported = {name.name for node in nodes if isinstance(node, ast.ImportFrom) for name in node.names}
            self.assertEqual(sorted(bound & imported), [], path)

    def test_methods(self):
        defined = {name for path in package_files() for name in names_bound(nodes_of(path))}
        for path, nodes in self.each():
            for node in nodes:
                if isinstance(node, ast.Call) and isinstance(node.func, ast.Attribute):
                    self.assertIn(node.func.attr, set(METHODS) | defined, node.lineno)

    def test_imports(self):
        drawn = {}
        for path, nodes in self.each():
            rows = [node for node in nodes if isinstance(node, ast.ImportFrom)]
            drawn[path.stem] = [node.module.partition(".")[2] for node in rows]
            for node in rows:
                self.assertEqual((node.level, node.module.partition(".")[0]), (0, "shelfruns"))
                self.assertEqual([name.asname for name in node.names if name.asname], [])
                source = ast.parse((PACKAGE / (node.module.partition(".")[2] + ".py")).read_text())
                self.assertLessEqual({name.name for name in node.names}, set(names_at_top(source)), path)
        while drawn:
            free = [stem for stem in drawn if not set(drawn[stem]) & set(drawn)]
            self.assertTrue(free, f"these draw from one another: {sorted(drawn)}")
            for stem in free:
                del drawn[stem]

    def test_the_top_of_a_module(self):
        for path in package_files():
            source = ast.parse(path.read_text())
            names = list(names_at_top(source))
            self.assertEqual(len(names), len(set(names)), path)
            for place, node in enumerate(source.body):
                if isinstance(node, ast.Assign):
                    # No list or dict lies at a file's top by now, so none can be changed there.
                    self.assertIsInstance(node.value, ast.Constant, (path, node.lineno))
                elif not (place == 0 and is_docstring(node)):
                    self.assertIsInstance(node, (ast.ImportFrom, ast.FunctionDef, ast.ClassDef), (path, node.lineno))

    def test_classes(self):
        methods, values = [], set()
        for path, nodes in self.each():
            values |= values_given(nodes)
            at_top = ast.parse(path.read_text()).body
            self.assertEqual(len([node for node in nodes if isinstance(node, ast.ClassDef)]),
                             len([node for node in at_top if isinstance(node, ast.ClassDef)]), path)
        for node in classes_of_package():
            self.assertLessEqual(len(node.bases), 1, node.name)
            own = [inner.name for inner in node.body if isinstance(inner, ast.FunctionDef)]
            self.assertEqual(len(own), len(set(own)), node.name)
            methods += own
            for inner in node.body:
                self.assertIsInstance(inner, (ast.FunctionDef, ast.Pass), (node.name, inner.lineno))
        taken = {name for kind in (str, int, list, dict, set, bytes, tuple) for name in dir(kind)}
        self.assertEqual(sorted(values & set(methods)), [])
        self.assertEqual(sorted(values & taken), [])
        self.assertEqual(sorted(set(methods) & taken - {"__init__"}), [])

    def test_a_made_object_gives_nothing_back(self):
        for node in classes_of_package():
            for inner in node.body:
                if isinstance(inner, ast.FunctionDef) and inner.name == "__init__":
                    self.assertFalse([at for at in ast.walk(inner) if isinstance(at, ast.Return)], node.name)

    def test_is_stands_beside_none_true_and_false_alone(self):
        for path, nodes in self.each():
            for node in nodes:
                if isinstance(node, ast.Compare) and any(isinstance(op, (ast.Is, ast.IsNot)) for op in node.ops):
                    self.assertIsInstance(node.comparators[-1], ast.Constant, node.lineno)

    def test_walked_at_once(self):
        for path, nodes in self.each():
            allowed = set(walked_on_the_spot(nodes))
            for node in nodes:
                if isinstance(node, ast.Call) and isinstance(node.func, ast.Name) and node.func.id in WALKED:
                    self.assertIn(node, allowed, node.lineno)

    def test_sets_are_not_kept(self):
        for path, nodes in self.each():
            calls = [node for node in nodes if isinstance(node, ast.Call) and isinstance(node.func, ast.Name)]
            within = {inner for node in calls if node.func.id in ("sorted", "len") for inner in ast.walk(node)}
            beside = {inner for node in nodes if isinstance(node, ast.Compare) for inner in ast.walk(node)}
            for node in calls:
                if node.func.id in ("set", "frozenset"):
                    self.assertIn(node, within | beside, node.lineno)


if __name__ == "__main__":
    unittest.main()
