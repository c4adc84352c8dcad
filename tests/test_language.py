"""Holds the package to those rules of its language that can be read off its text."""

import ast
import builtins
import pathlib
import re
import unittest

TOP = pathlib.Path(__file__).resolve().parent.parent / "patchkin"
FILES = sorted(path for path in TOP.rglob("*") if "__pycache__" not in path.parts)

WORDS = re.compile(
    r"\b(type|typing|typing_extensions|enum|Enum|IntEnum|StrEnum|Flag|IntFlag|Generic|Protocol|ABC|ABCMeta"
    r"|namedtuple|NamedTuple|TypedDict|TYPE_CHECKING|abstractmethod)\b|dataclass|overload|contextmanager"
)
BARRED = (
    ast.With, ast.Match, ast.Delete, ast.Global, ast.Nonlocal, ast.Assert, ast.Yield, ast.YieldFrom,
    ast.AsyncFunctionDef, ast.Await, ast.NamedExpr, ast.Starred, ast.SetComp, ast.DictComp, ast.GeneratorExp,
    ast.Div, ast.Import,
)
NAMES = (
    "len range enumerate zip min max sum abs sorted reversed int str bool list tuple dict set frozenset isinstance"
    " ord repr any all divmod Exception ValueError TypeError KeyError IndexError LookupError ZeroDivisionError"
    " ArithmeticError OverflowError RuntimeError NotImplementedError AttributeError StopIteration"
).split()
METHODS = ("__init__", "__eq__", "__repr__", "__str__", "__len__")
PYTHONS_METHODS = (
    "append clear copy count endswith extend find get index insert isalnum isalpha isdigit islower isspace isupper"
    " items join keys ljust lower lstrip partition pop remove replace reverse rfind rjust rpartition rsplit rstrip"
    " setdefault split splitlines startswith strip update upper values zfill bit_length"
).split()
KEYWORDS = {"sorted": ("key", "reverse"), "min": ("key", "default"), "max": ("key", "default"), "sum": ("start",),
            "enumerate": ("start",), "zip": ("strict",)}
WALKED = ("zip", "enumerate", "reversed", "range")
WALKERS = ("list", "tuple", "dict", "sorted", "sum", "any", "all", "enumerate", "zip", "min", "max")


def nodes_of(path, kinds):
    return [node for node in ast.walk(ast.parse(path.read_text())) if isinstance(node, kinds)]


def defs_of(path):
    """Of each class its methods, and the values that they give to an object."""
    methods, values = set(), set()
    for owner in nodes_of(path, ast.ClassDef):
        methods |= {node.name for node in owner.body if isinstance(node, ast.FunctionDef)}
        for node in ast.walk(owner):
            if isinstance(node, ast.Attribute) and isinstance(node.ctx, ast.Store):
                values.add(node.attr)
    return methods, values


def called(node):
    return node.func.id if isinstance(node, ast.Call) and isinstance(node.func, ast.Name) else None


def with_parents(path):
    for parent in ast.walk(ast.parse(path.read_text())):
        for node in ast.iter_child_nodes(parent):
            yield node, parent


class Language(unittest.TestCase):
    def test_only_plain_files(self):
        self.assertIn(TOP / "__init__.py", FILES)
        for path in FILES:
            self.assertTrue(path.is_file())
            self.assertRegex(path.name, r"\A(__init__|__main__|[a-z][a-z0-9_]*)\.py\Z")

    def test_signs_and_sizes(self):
        for path in FILES:
            text = path.read_bytes().decode("ascii")
            self.assertRegex(text, r"\A[ -~\n]*\Z")
            self.assertLessEqual(len(text.splitlines()), 400)
            self.assertLessEqual(max((len(line) for line in text.splitlines()), default=0), 120)
            for node in nodes_of(path, ast.FunctionDef):
                self.assertLessEqual(node.end_lineno - node.lineno + 1, 40, node.name)

    def test_words_that_stand_nowhere(self):
        for path in FILES:
            self.assertIsNone(WORDS.search(path.read_text()), path)

    def test_statements_and_expressions(self):
        for path in FILES:
            self.assertEqual([(type(node).__name__, node) for node in nodes_of(path, BARRED)], [])
            self.assertEqual([node for node in nodes_of(path, (ast.For, ast.While)) if node.orelse], [])
            self.assertEqual([node for node in nodes_of(path, ast.Assign) if len(node.targets) > 1], [])

    def test_imports(self):
        for path in FILES:
            for node in nodes_of(path, ast.ImportFrom):
                self.assertEqual(node.level, 0)
                self.assertRegex(node.module, r"\Apatchkin\.[a-z]")

    def test_names(self):
        for path in FILES:
            for node in nodes_of(path, (ast.FunctionDef, ast.ClassDef)):
                self.assertTrue(node.name in METHODS or not node.name.startswith("_"), node.name)
                self.assertEqual(node.decorator_list, [])
            for node in nodes_of(path, ast.arg):
                self.assertFalse(node.arg.startswith("_") or node.arg in dir(builtins), node.arg)
            for node in nodes_of(path, ast.Name):
                self.assertFalse(node.id.startswith("_"), node.id)
                self.assertFalse(isinstance(node.ctx, ast.Store) and node.id in dir(builtins), node.id)

    def test_names_of_pythons_own(self):
        for path in FILES:
            used = {node.id for node in nodes_of(path, ast.Name)}
            self.assertEqual((used & set(dir(builtins))) - set(NAMES), set(), path)

    def test_names_drawn_in_are_defined_where_they_are_drawn_from(self):
        drawn = {}
        for path in FILES:
            drawn[path.stem] = []
            for node in nodes_of(path, ast.ImportFrom):
                source = TOP / (node.module.split(".")[1] + ".py")
                defined = {found.name for found in nodes_of(source, (ast.FunctionDef, ast.ClassDef))}
                self.assertEqual({alias.name for alias in node.names} - defined, set(), path)
                drawn[path.stem].append(source.stem)
        left = dict(drawn)
        while left:
            free = [name for name in left if not set(left[name]) & set(left)]
            self.assertNotEqual(free, [], "files that draw from one another")
            left = {name: left[name] for name in left if name not in free}

    def test_no_local_is_called_like_a_class_or_an_import(self):
        for path in FILES:
            barred = {node.name for node in nodes_of(path, ast.ClassDef)}
            for node in nodes_of(path, ast.ImportFrom):
                barred |= {alias.asname or alias.name for alias in node.names}
            bound = {node.arg for node in nodes_of(path, ast.arg)}
            bound |= {node.id for node in nodes_of(path, ast.Name) if isinstance(node.ctx, ast.Store)}
            self.assertEqual(barred & bound, set(), path)

    def test_only_calls_stand_by_themselves(self):
        for path in FILES:
            tree = ast.parse(path.read_text())
            for node in ast.walk(tree):
                if isinstance(node, ast.Expr) and node is not tree.body[0]:
                    self.assertIsInstance(node.value, ast.Call, (path, node.lineno))

    def test_is_stands_beside_none_true_and_false(self):
        for path in FILES:
            for node in nodes_of(path, ast.Compare):
                for sign, right in zip(node.ops, node.comparators):
                    if isinstance(sign, (ast.Is, ast.IsNot)):
                        self.assertIn(getattr(right, "value", 0), (None, True, False), (path, node.lineno))

    def test_texts(self):
        for path in FILES:
            for node in nodes_of(path, ast.Constant):
                self.assertIn(type(node.value), (int, str, bool, type(None)), (path, node.lineno))
                self.assertFalse(isinstance(node.value, str) and "%" in node.value, (path, node.lineno))
            for node in nodes_of(path, ast.FormattedValue):
                self.assertIsInstance(node.value, ast.Name, (path, node.lineno))
                self.assertIsNone(node.format_spec, (path, node.lineno))

    def test_methods_and_values(self):
        methods, values = set(), set()
        for path in FILES:
            found = defs_of(path)
            methods |= found[0]
            values |= found[1]
        self.assertEqual(methods & values, set())
        own = set().union(*(dir(kind) for kind in (str, int, list, dict, set, bytes, tuple)))
        self.assertEqual((methods | values) & own - set(METHODS), set())
        for path in FILES:
            for node, parent in with_parents(path):
                if isinstance(node, ast.Attribute) and node.attr not in values:
                    self.assertIn(node.attr, methods | set(PYTHONS_METHODS), (path, node.lineno))
                    self.assertTrue(isinstance(parent, ast.Call) and parent.func is node, (path, node.lineno))

    def test_sets_and_walks_are_used_on_the_spot(self):
        for path in FILES:
            for node, parent in with_parents(path):
                if called(node) in ("set", "frozenset"):
                    right = called(parent) in ("sorted", "len") or isinstance(parent, (ast.Compare, ast.BinOp))
                    self.assertTrue(right, (path, node.lineno))
                if called(node) in WALKED:
                    right = called(parent) in WALKERS or isinstance(parent, (ast.For, ast.comprehension))
                    self.assertTrue(right, (path, node.lineno))

    def test_keywords_and_comprehensions(self):
        for path in FILES:
            for node in nodes_of(path, ast.Call):
                for keyword in node.keywords:
                    self.assertIn(keyword.arg, KEYWORDS.get(called(node), ()), (path, node.lineno))
            for node in nodes_of(path, ast.ListComp):
                self.assertEqual(len(node.generators), 1, (path, node.lineno))
                self.assertLessEqual(len(node.generators[0].ifs), 1, (path, node.lineno))


if __name__ == "__main__":
    unittest.main()
