"""The package's files keep to the part of Python that is set for them, so no clock, chance or file is in reach."""

import ast
import builtins
import re
import unittest
from pathlib import Path

PACKAGE = Path(__file__).resolve().parent.parent / "leftin"

ALLOWED = set(
    "len range enumerate zip min max sum abs sorted reversed int str bool list tuple dict set frozenset isinstance ord "
    "repr any all divmod Exception ValueError TypeError KeyError IndexError LookupError ZeroDivisionError "
    "ArithmeticError OverflowError RuntimeError NotImplementedError AttributeError StopIteration".split()
)
METHODS = {"__init__", "__eq__", "__repr__", "__str__", "__len__"}
STATEMENTS = (
    ast.Assign, ast.AugAssign, ast.If, ast.While, ast.For, ast.Return, ast.Break, ast.Continue, ast.Pass, ast.Raise,
    ast.Try, ast.Expr, ast.FunctionDef, ast.ClassDef, ast.ImportFrom,
)
EXPRESSIONS_OUT = (
    ast.Set, ast.SetComp, ast.DictComp, ast.GeneratorExp, ast.NamedExpr, ast.Starred, ast.Div, ast.Await, ast.Yield,
    ast.YieldFrom, ast.MatMult,
)
CALLED = set("append clear copy count extend get index insert items keys pop remove reverse values shows".split())
WORDS = re.compile(
    r"\b(type|typing|typing_extensions|enum|Enum|IntEnum|StrEnum|Flag|IntFlag|Generic|Protocol|ABC|ABCMeta|namedtuple"
    r"|NamedTuple|TypedDict|TYPE_CHECKING|abstractmethod)\b|dataclass|overload|contextmanager"
)


def entries():
    return sorted(path for path in PACKAGE.rglob("*") if "__pycache__" not in path.parts)


def nodes(path):
    return ast.walk(ast.parse(path.read_text(encoding="utf-8")))


class FormTest(unittest.TestCase):
    def test_files(self):
        self.assertIn(PACKAGE / "__init__.py", entries())
        for path in entries():
            self.assertTrue(path.is_file(), path)
            self.assertRegex(path.name, r"\A[a-z_][a-z0-9_]*\.py\Z")

    def test_signs_and_sizes(self):
        for path in entries():
            text = path.read_bytes().decode("utf-8")
            self.assertRegex(text, r"\A[\n -~]*\Z", path)
            lines = text.split("\n")
            self.assertLessEqual(len(lines), 400, path)
            self.assertLessEqual(max(len(line) for line in lines), 120, path)
            self.assertIsNone(WORDS.search(text), path)

    def test_function_sizes(self):
        for path in entries():
            for node in nodes(path):
                if isinstance(node, ast.FunctionDef):
                    self.assertLessEqual(node.end_lineno - node.lineno + 1, 40, (path, node.name))

    def test_imports_are_the_package_s_own(self):
        for path in entries():
            for node in nodes(path):
                self.assertNotIsInstance(node, ast.Import, path)
                if isinstance(node, ast.ImportFrom):
                    self.assertEqual(node.level, 0, path)
                    self.assertRegex(node.module, r"\Aleftin\.[a-z]+\Z", path)
                    self.assertNotIn("*", [alias.name for alias in node.names], path)

    def test_names(self):
        for path in entries():
            for node in nodes(path):
                if isinstance(node, ast.Name) and hasattr(builtins, node.id):
                    self.assertIn(node.id, ALLOWED, path)
                if isinstance(node, ast.Name):
                    self.assertFalse(node.id.startswith("_"), (path, node.id))
                if isinstance(node, ast.Attribute) and node.attr.startswith("_"):
                    self.assertEqual(node.attr, "__init__", path)
                if isinstance(node, ast.FunctionDef) and node.name.startswith("_"):
                    self.assertIn(node.name, METHODS, path)

    def test_statements(self):
        for path in entries():
            for node in nodes(path):
                if isinstance(node, ast.stmt):
                    self.assertIsInstance(node, STATEMENTS, path)
                if isinstance(node, ast.FunctionDef):
                    for part in ast.walk(node):
                        if isinstance(part, ast.Expr):
                            self.assertIsInstance(part.value, ast.Call, (path, node.name))

    def test_expressions(self):
        for path in entries():
            for node in nodes(path):
                self.assertNotIsInstance(node, EXPRESSIONS_OUT, path)
                if isinstance(node, ast.Constant):
                    self.assertIn(node.value.__class__, (int, str, bool, None.__class__), path)
                if isinstance(node, ast.ListComp):
                    self.assertEqual(len(node.generators), 1, path)
                    self.assertLessEqual(len(node.generators[0].ifs), 1, path)
                if isinstance(node, ast.Call) and isinstance(node.func, ast.Attribute):
                    self.assertIn(node.func.attr, CALLED, path)
                if isinstance(node, ast.Assign):
                    self.assertEqual(len(node.targets), 1, path)
                    self.assertNotIsInstance(node.targets[0], (ast.Tuple, ast.List), path)

    def test_each_name_once(self):
        for path in entries():
            taken = {alias.name for node in nodes(path) if isinstance(node, ast.ImportFrom) for alias in node.names}
            taken |= {node.name for node in nodes(path) if isinstance(node, ast.ClassDef)}
            for node in nodes(path):
                name = None
                if isinstance(node, ast.Name) and isinstance(node.ctx, ast.Store):
                    name = node.id
                if isinstance(node, ast.arg):
                    name = node.arg
                self.assertNotIn(name, taken, path)
                self.assertFalse(name is not None and hasattr(builtins, name), (path, name))

    def test_no_name_is_a_method_and_a_value(self):
        methods, values = set(), set()
        for path in entries():
            for node in nodes(path):
                if isinstance(node, ast.ClassDef):
                    methods |= {part.name for part in node.body if isinstance(part, ast.FunctionDef)}
                if isinstance(node, ast.Attribute) and isinstance(node.ctx, ast.Store):
                    values.add(node.attr)
        self.assertEqual(methods & values, set())

    def test_no_two_files_draw_from_one_another(self):
        drawn = {}
        for path in entries():
            drawn[path.stem] = [node.module[7:] for node in nodes(path) if isinstance(node, ast.ImportFrom)]
        free = []
        while len(free) < len(drawn):
            ready = [name for name in drawn if name not in free and all(other in free for other in drawn[name])]
            self.assertNotEqual(ready, [], drawn)
            free.extend(ready)


if __name__ == "__main__":
    unittest.main()
