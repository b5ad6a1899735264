"""The form of the package's files: those rules of ../shared/LANGUAGE.md that are easily seen by reading."""

import ast
import builtins
import pathlib
import re
import unittest

PACKAGE = pathlib.Path(__file__).resolve().parent.parent / "roadsettings"
OWN_NAMES = set(
    "len range enumerate zip min max sum abs sorted reversed int str bool bytes list tuple dict set frozenset"
    " isinstance ord repr any all divmod Exception ValueError TypeError KeyError IndexError LookupError"
    " ZeroDivisionError ArithmeticError OverflowError RuntimeError NotImplementedError AttributeError"
    " StopIteration".split()
)
UNDERSCORED = {"__init__", "__eq__", "__repr__", "__str__", "__len__"}
WORDS = re.compile(
    r"\b(type|typing|typing_extensions|enum|Enum|IntEnum|StrEnum|Flag|IntFlag|Generic|Protocol|ABC|ABCMeta"
    r"|namedtuple|NamedTuple|TypedDict|TYPE_CHECKING|abstractmethod)\b|dataclass|overload|contextmanager"
)
OUT = (
    ast.GeneratorExp, ast.With, ast.Match, ast.Global, ast.Nonlocal, ast.Yield, ast.YieldFrom, ast.Await,
    ast.AsyncFunctionDef, ast.AsyncFor, ast.AsyncWith, ast.NamedExpr, ast.Div, ast.MatMult, ast.Import,
)


def files():
    return sorted(PACKAGE.rglob("*.py"))


def bound_names(node):
    """The names that a node of the tree gives."""
    if isinstance(node, (ast.FunctionDef, ast.ClassDef)):
        return [node.name]
    if isinstance(node, ast.arg):
        return [node.arg]
    if isinstance(node, ast.Name) and isinstance(node.ctx, ast.Store):
        return [node.id]
    return [node.attr] if isinstance(node, ast.Attribute) else []


class Form(unittest.TestCase):
    def each_node(self):
        """Pairs of where a node of a file's tree stands, and the node."""
        told = []
        for path in files():
            for node in ast.walk(ast.parse(path.read_text(encoding="utf-8"))):
                told.append((f"{path.name}, row {getattr(node, 'lineno', 0)}", node))
        return told

    def test_nothing_but_python_files_lies_in_the_package(self):
        others = [path for path in PACKAGE.rglob("*") if path.is_file() and path.suffix != ".py"]
        self.assertEqual([path for path in others if path.parent.name != "__pycache__"], [])
        self.assertIn(PACKAGE / "__init__.py", files())

    def test_sizes_signs_and_words(self):
        for path in files():
            text = path.read_text(encoding="utf-8")
            rows = text.split("\n")
            with self.subTest(file=path.name):
                self.assertLessEqual(len(rows), 400)
                self.assertLessEqual(max(len(row) for row in rows), 120)
                self.assertTrue(all(sign == "\n" or " " <= sign <= "~" for sign in text))
                self.assertIsNone(WORDS.search(text))

    def test_functions_are_small_and_plain(self):
        for where, node in self.each_node():
            if isinstance(node, ast.FunctionDef):
                self.assertLessEqual(node.end_lineno - node.lineno + 1, 40, where)
                self.assertEqual(node.decorator_list, [], where)
                stars = (node.args.vararg, node.args.kwarg, node.args.posonlyargs)
                self.assertEqual(stars, (None, None, []), where)

    def test_nothing_that_is_out_stands_there(self):
        for where, node in self.each_node():
            self.assertNotIsInstance(node, OUT, where)
            if isinstance(node, ast.Constant):
                self.assertNotIsInstance(node.value, (float, complex), where)
                self.assertFalse(isinstance(node.value, str) and "%" in node.value, where)
            if isinstance(node, ast.BinOp) and isinstance(node.op, ast.Pow):
                self.assertIsInstance(node.right, ast.Constant, where)

    def test_only_the_package_s_own_files_are_drawn_from(self):
        for where, node in self.each_node():
            if isinstance(node, ast.ImportFrom):
                self.assertEqual(node.level, 0, where)
                self.assertTrue(node.module.startswith("roadsettings."), where)
                self.assertNotIn("*", [drawn.name for drawn in node.names], where)

    def test_python_s_own_names(self):
        for where, node in self.each_node():
            if isinstance(node, ast.Name) and hasattr(builtins, node.id):
                self.assertIn(node.id, OWN_NAMES, where)
                self.assertIsInstance(node.ctx, ast.Load, where)
            for name in bound_names(node):
                self.assertTrue(name in UNDERSCORED or not name.startswith("_"), where)


if __name__ == "__main__":
    unittest.main()
