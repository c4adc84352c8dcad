"""Holds the package to those rules of its language that can be read off its text."""

import ast
import builtins
import pathlib
import re
import unittest

TOP = pathlib.Path(__file__).resolve().parent.parent / "patchkin"
FILES = sorted(path for path in TOP.rglob("*") if "__pycache__" not in path.parts)

WORDS = re.compile(
    r"\b(type|typing|typing_extensions|enum|Enum|IntEnum|StrEnum|Flag|IntFlag|Generic|Protocol|ABC|ABCMeta"
    r"|namedtuple|NamedTuple|TypedDict|TYPE_CHECKING|abstractmethod)\b|dataclass|overload|contextmanager"
)
BARRED = (
    ast.With, ast.Match, ast.Delete, ast.Global, ast.Nonlocal, ast.Assert, ast.Yield, ast.YieldFrom,
    ast.AsyncFunctionDef, ast.Await, ast.NamedExpr, ast.Starred, ast.SetComp, ast.DictComp, ast.GeneratorExp,
    ast.Div, ast.Import,
)
NAMES = (
    "len range enumerate zip min max sum abs sorted reversed int str bool list tuple dict set frozenset isinstance"
    " ord repr any all divmod Exception ValueError TypeError KeyError IndexError LookupError ZeroDivisionError"
    " ArithmeticError OverflowError RuntimeError NotImplementedError AttributeError StopIteration"
).split()
METHODS = ("__init__", "__eq__", "__repr__", "__str__", "__len__")


def nodes_of(path, kinds):
    return [node for node in ast.walk(ast.parse(path.read_text())) if isinstance(node, kinds)]


class Language(unittest.TestCase):
    def test_only_plain_files(self):
        self.assertIn(TOP / "__init__.py", FILES)
        for path in FILES:
            self.assertTrue(path.is_file())
            self.assertRegex(path.name, r"\A(__init__|__main__|[a-z][a-z0-9_]*)\.py\Z")

    def test_signs_and_sizes(self):
        for path in FILES:
            text = path.read_bytes().decode("ascii")
            self.assertRegex(text, r"\A[ -~\n]*\Z")
            self.assertLessEqual(len(text.splitlines()), 400)
            self.assertLessEqual(max((len(line) for line in text.splitlines()), default=0), 120)
            for node in nodes_of(path, ast.FunctionDef):
                self.assertLessEqual(node.end_lineno - node.lineno + 1, 40, node.name)

    def test_words_that_stand_nowhere(self):
        for path in FILES:
            self.assertIsNone(WORDS.search(path.read_text()), path)

    def test_statements_and_expressions(self):
        for path in FILES:
            self.assertEqual([(type(node).__name__, node) for node in nodes_of(path, BARRED)], [])
            self.assertEqual([node for node in nodes_of(path, (ast.For, ast.While)) if node.orelse], [])
            self.assertEqual([node for node in nodes_of(path, ast.Assign) if len(node.targets) > 1], [])

    def test_imports(self):
        for path in FILES:
            for node in nodes_of(path, ast.ImportFrom):
                self.assertEqual(node.level, 0)
                self.assertRegex(node.module, r"\Apatchkin\.[a-z]")

    def test_names(self):
        for path in FILES:
            for node in nodes_of(path, (ast.FunctionDef, ast.ClassDef)):
                self.assertTrue(node.name in METHODS or not node.name.startswith("_"), node.name)
                self.assertEqual(node.decorator_list, [])
            for node in nodes_of(path, ast.arg):
                self.assertFalse(node.arg.startswith("_") or node.arg in dir(builtins), node.arg)
            for node in nodes_of(path, ast.Name):
                self.assertFalse(node.id.startswith("_"), node.id)

    def test_names_of_pythons_own(self):
        for path in FILES:
            used = {node.id for node in nodes_of(path, ast.Name)}
            self.assertEqual((used & set(dir(builtins))) - set(NAMES), set(), path)


if __name__ == "__main__":
    unittest.main()
