"""The package keeps to the small part of Python that it is written in, as far as a walk of its trees shows."""

import ast
import builtins
import re
import unittest
from pathlib import Path

PACKAGE = Path(__file__).resolve().parent.parent / "paperschain"
FILES = sorted(PACKAGE.glob("*.py"))

NODES = (
    "Module FunctionDef arguments arg ClassDef Return Assign AugAssign For While If Raise Try ExceptHandler "
    "ImportFrom alias Expr Pass Break Continue BoolOp And Or BinOp Add Sub Mult FloorDiv Mod Pow LShift RShift BitOr "
    "BitXor BitAnd UnaryOp Invert Not UAdd USub Lambda IfExp Dict Set ListComp comprehension Compare Eq NotEq Lt LtE "
    "Gt GtE Is IsNot In NotIn Call keyword JoinedStr FormattedValue Constant Attribute Subscript Slice Name List "
    "Tuple Load Store"
).split()
OWN_NAMES = (
    "len range enumerate zip min max sum abs sorted reversed int str bool list tuple dict set frozenset isinstance ord "
    "repr any all divmod Exception ValueError TypeError KeyError IndexError LookupError ZeroDivisionError "
    "ArithmeticError OverflowError RuntimeError NotImplementedError AttributeError StopIteration"
).split()
METHODS = (
    "append clear copy count endswith extend find get index insert isalnum isalpha isdigit islower isspace isupper "
    "items join keys ljust lower lstrip partition pop remove replace reverse rfind rjust rpartition rsplit rstrip "
    "setdefault split splitlines startswith strip update upper values zfill bit_length"
).split()
DUNDERS = "__init__ __eq__ __repr__ __str__ __len__".split()
NOWHERE = (
    "type typing typing_extensions enum Enum IntEnum StrEnum Flag IntFlag Generic Protocol ABC ABCMeta namedtuple "
    "NamedTuple TypedDict TYPE_CHECKING abstractmethod"
).split()
NOT_NAMES = (
    "register mro elements open input version_info with_traceback add_note attrgetter breakpoint builtins compile "
    "copyright credits delattr dir eval exec exit gc getattr globals hasattr help id importlib license locals "
    "methodcaller os quit setattr super type vars sys __name__ format format_map"
).split()
BUILTINS = [name for name in dir(builtins) if not name.startswith("__")]
VALUE_NAMES = "count index title find get join lower upper split strip copy add".split()


def names_of(tree):
    """Every name, argument, attribute, function and class in the tree."""
    for node in ast.walk(tree):
        for field in ("id", "arg", "attr", "name"):
            name = getattr(node, field, None)
            if isinstance(name, str):
                yield name


def bound_names(tree):
    for node in ast.walk(tree):
        if isinstance(node, ast.arg):
            yield node.arg
        elif isinstance(node, ast.Name) and isinstance(node.ctx, ast.Store):
            yield node.id
        elif isinstance(node, (ast.FunctionDef, ast.ClassDef)):
            yield node.name


class Language(unittest.TestCase):
    def setUp(self):
        self.sources = {path: path.read_text("utf-8") for path in FILES}
        self.trees = {path: ast.parse(source) for path, source in self.sources.items()}

    def test_files(self):
        self.assertIn(PACKAGE / "__init__.py", FILES)
        others = [path for path in PACKAGE.iterdir() if path not in FILES and path.name != "__pycache__"]
        self.assertEqual(others, [])
        for path in FILES:
            self.assertRegex(path.name, r"\A[a-z0-9_]+\.py\Z")
            self.assertNotIn(path.stem, BUILTINS)

    def test_sizes_and_signs(self):
        for path, source in self.sources.items():
            rows = source.split("\n")
            self.assertLessEqual(len(rows), 400, path)
            self.assertLessEqual(max(len(row) for row in rows), 120, path)
            self.assertEqual([sign for sign in source if sign != "\n" and not " " <= sign <= "~"], [], path)
            for node in ast.walk(self.trees[path]):
                if isinstance(node, ast.FunctionDef):
                    self.assertLessEqual(node.end_lineno - node.lineno + 1, 40, node.name)

    def test_words_that_stand_nowhere(self):
        for path, source in self.sources.items():
            self.assertEqual([word for word in re.findall(r"\w+", source) if word in NOWHERE], [], path)
            self.assertIsNone(re.search("dataclass|overload|contextmanager", source), path)

    def test_forms(self):
        for path, tree in self.trees.items():
            for node in ast.walk(tree):
                self.assertIn(node.__class__.__name__, NODES, (path, getattr(node, "lineno", 0)))
                self.check_node(node)

    def check_node(self, node):
        place = getattr(node, "lineno", 0)
        if isinstance(node, ast.FunctionDef):
            self.assertEqual(node.decorator_list, [])
            self.assertFalse(node.args.vararg or node.args.kwarg or node.args.kwonlyargs or node.args.posonlyargs)
            self.assertIsNone(node.returns)
        elif isinstance(node, ast.arg):
            self.assertIsNone(node.annotation)
        elif isinstance(node, ast.ClassDef):
            self.assertEqual(node.decorator_list + node.keywords, [])
            self.assertLessEqual(len(node.bases), 1)
        elif isinstance(node, ast.Assign):
            self.assertEqual(len(node.targets), 1, place)
        elif isinstance(node, ast.Expr):
            self.assertTrue(isinstance(node.value, ast.Call) or place == 1, place)
        elif isinstance(node, (ast.For, ast.While)):
            self.assertEqual(node.orelse, [], place)
        elif isinstance(node, ast.Try):
            self.assertEqual(node.finalbody, [], place)
        elif isinstance(node, ast.comprehension):
            self.assertLessEqual(len(node.ifs), 1, place)
        elif isinstance(node, ast.ListComp):
            self.assertEqual(len(node.generators), 1, place)
        elif isinstance(node, ast.Constant):
            self.assertIn(node.value.__class__, (int, str, bool, None.__class__), place)
            self.assertFalse(isinstance(node.value, str) and "%" in node.value, place)
        elif isinstance(node, ast.FormattedValue):
            self.assertIsInstance(node.value, ast.Name, place)
            self.assertIsNone(node.format_spec, place)
        elif isinstance(node, ast.BinOp) and isinstance(node.op, ast.Pow):
            self.assertIsInstance(node.right, ast.Constant, place)
        elif isinstance(node, ast.Compare) and isinstance(node.ops[0], (ast.Is, ast.IsNot)):
            self.assertIsInstance(node.comparators[0], ast.Constant, place)

    def test_imports(self):
        drawn = {}
        for path, tree in self.trees.items():
            rows = [node for node in ast.walk(tree) if isinstance(node, ast.ImportFrom)]
            self.assertEqual([row for row in rows if row not in tree.body], [], path)
            for row in rows:
                package, stem = row.module.split(".")
                self.assertEqual((package, row.level), ("paperschain", 0))
                defined = self.defined(PACKAGE / f"{stem}.py")
                used = list(names_of(ast.Module([node for node in tree.body if node not in rows], [])))
                for name in row.names:
                    self.assertIn(name.name, defined, path)
                    self.assertIn(name.name, used, path)
                    self.assertIsNone(name.asname)
                drawn.setdefault(path.stem, []).append(stem)
        for stem in drawn:
            self.assertNotIn(stem, self.reached(drawn, stem))

    def defined(self, path):
        found = []
        for node in self.trees[path].body:
            if isinstance(node, ast.Assign):
                found.append(node.targets[0].id)
            elif isinstance(node, (ast.FunctionDef, ast.ClassDef)):
                found.append(node.name)
        return found

    def reached(self, drawn, stem):
        found = []
        waiting = list(drawn.get(stem, []))
        while waiting:
            one = waiting.pop()
            if one not in found:
                found.append(one)
                waiting += drawn.get(one, [])
        return found

    def test_names(self):
        for path, tree in self.trees.items():
            defined = self.defined(path)
            self.assertEqual(len(defined), len(set(defined)), path)
            for name in names_of(tree):
                self.assertNotIn(name, NOT_NAMES, path)
                self.assertTrue(name in DUNDERS or re.fullmatch(r"[A-Za-z]\w*(\.\w+)?", name, re.ASCII), (path, name))
            for name in bound_names(tree):
                self.assertNotIn(name, BUILTINS, path)
            for node in ast.walk(tree):
                if isinstance(node, ast.Name) and node.id in BUILTINS:
                    self.assertIn(node.id, OWN_NAMES, path)

    def test_no_local_is_called_like_a_class_or_an_import(self):
        for path, tree in self.trees.items():
            taken = [node.name for node in tree.body if isinstance(node, ast.ClassDef)]
            taken += [name.name for node in tree.body if isinstance(node, ast.ImportFrom) for name in node.names]
            for node in ast.walk(tree):
                if isinstance(node, ast.FunctionDef):
                    inner = [name for part in node.body + [node.args] for name in bound_names(part)]
                    self.assertEqual([name for name in inner if name in taken], [], path)

    def test_methods_and_values(self):
        methods = []
        values = []
        called = []
        for tree in self.trees.values():
            for node in ast.walk(tree):
                if isinstance(node, ast.ClassDef):
                    methods += [part.name for part in node.body if isinstance(part, ast.FunctionDef)]
                elif isinstance(node, ast.Attribute) and isinstance(node.ctx, ast.Store):
                    values.append(node.attr)
                elif isinstance(node, ast.Call) and isinstance(node.func, ast.Attribute):
                    called.append(node.func.attr)
        self.assertEqual(set(methods) & set(values), set())
        taken = {name for kind in (str, int, list, dict, set, bytes, tuple) for name in vars(kind)}
        self.assertEqual({name for name in values if name in taken and name not in VALUE_NAMES}, set())
        self.assertEqual({name for name in methods if name in taken and name not in METHODS + DUNDERS}, set())
        self.assertEqual({name for name in called if name not in METHODS + methods}, set())

    def test_nothing_at_a_files_top_is_done(self):
        for path, tree in self.trees.items():
            for node in tree.body[1:]:
                self.assertIsInstance(node, (ast.ImportFrom, ast.FunctionDef, ast.ClassDef, ast.Assign), path)
            self.assertIsInstance(tree.body[0].value.value, str, path)


if __name__ == "__main__":
    unittest.main()
