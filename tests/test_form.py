"""The form of the package's files: those rules of ../shared/LANGUAGE.md that are easily seen by reading."""

import ast
import builtins
import pathlib
import re
import unittest

PACKAGE = pathlib.Path(__file__).resolve().parent.parent / "roadsettings"
OWN_NAMES = set(
    "len range enumerate zip min max sum abs sorted reversed int str bool bytes list tuple dict set frozenset"
    " isinstance ord repr any all divmod Exception ValueError TypeError KeyError IndexError LookupError"
    " ZeroDivisionError ArithmeticError OverflowError RuntimeError NotImplementedError AttributeError"
    " StopIteration".split()
)
UNDERSCORED = {"__init__", "__eq__", "__repr__", "__str__", "__len__"}
WORDS = re.compile(
    r"\b(type|typing|typing_extensions|enum|Enum|IntEnum|StrEnum|Flag|IntFlag|Generic|Protocol|ABC|ABCMeta"
    r"|namedtuple|NamedTuple|TypedDict|TYPE_CHECKING|abstractmethod)\b|dataclass|overload|contextmanager"
)
METHODS = set(
    "append clear copy count endswith extend find get index insert isalnum isalpha isdigit islower isspace isupper"
    " items join keys ljust lower lstrip partition pop remove replace reverse rfind rjust rpartition rsplit rstrip"
    " setdefault split splitlines startswith strip update upper values zfill bit_length add discard".split()
)
NOT_USED = set(
    "register mro elements open input version_info with_traceback add_note attrgetter breakpoint builtins compile"
    " copyright credits delattr dir eval exec exit gc getattr globals hasattr help id importlib license locals"
    " methodcaller os quit setattr super type vars sys format format_map".split()
)
VALUES_OUT = set(
    "items keys values pop update append clear extend insert remove reverse setdefault sort args encode decode hex"
    " fromhex format".split()
)
OUT = (
    ast.GeneratorExp, ast.With, ast.Match, ast.Global, ast.Nonlocal, ast.Yield, ast.YieldFrom, ast.Await,
    ast.AsyncFunctionDef, ast.AsyncFor, ast.AsyncWith, ast.NamedExpr, ast.Div, ast.MatMult, ast.Import,
)
ON_THE_SPOT = {"zip", "enumerate", "reversed", "range", "items", "keys", "values"}
WALKERS = {"list", "tuple", "dict", "sorted", "sum", "any", "all", "enumerate", "zip", "min", "max", "join"}


def files():
    return sorted(PACKAGE.rglob("*.py"))


def bound_names(node):
    """The names that a node of the tree gives."""
    if isinstance(node, (ast.FunctionDef, ast.ClassDef)):
        return [node.name]
    if isinstance(node, ast.arg):
        return [node.arg]
    if isinstance(node, ast.Name) and isinstance(node.ctx, ast.Store):
        return [node.id]
    return [node.attr] if isinstance(node, ast.Attribute) else []


def called(node):
    """The name by which a call calls, "" of anything else."""
    if not isinstance(node, ast.Call):
        return ""
    return node.func.id if isinstance(node.func, ast.Name) else getattr(node.func, "attr", "")


def walked_on_the_spot(parent, node):
    """Whether what stands above a call walks it."""
    if isinstance(parent, (ast.For, ast.comprehension)):
        return parent.iter is node
    if isinstance(parent, ast.Compare):
        return called(node) in ("range", "keys")
    return called(parent) in WALKERS or (called(parent), called(node)) == ("reversed", "range")


def tops_taken(tree):
    """The names that a file's imports and classes bind."""
    drawn = [name.asname or name.name for row in tree.body if isinstance(row, ast.ImportFrom) for name in row.names]
    return set(drawn) | {row.name for row in tree.body if isinstance(row, ast.ClassDef)}


def drawn_from(path):
    """The package's files that this one draws from."""
    rows = [row for row in ast.parse(path.read_text(encoding="utf-8")).body if isinstance(row, ast.ImportFrom)]
    return {row.module.split(".")[-1] for row in rows}


class Form(unittest.TestCase):
    def each_node(self):
        """Pairs of where a node of a file's tree stands, and the node."""
        told = []
        for path in files():
            for node in ast.walk(ast.parse(path.read_text(encoding="utf-8"))):
                told.append((f"{path.name}, row {getattr(node, 'lineno', 0)}", node))
        return told

    def test_nothing_but_python_files_lies_in_the_package(self):
        others = [path for path in PACKAGE.rglob("*") if path.is_file() and path.suffix != ".py"]
        self.assertEqual([path for path in others if path.parent.name != "__pycache__"], [])
        self.assertIn(PACKAGE / "__init__.py", files())

    def test_sizes_signs_and_words(self):
        for path in files():
            text = path.read_text(encoding="utf-8")
            rows = text.split("\n")
            with self.subTest(file=path.name):
                self.assertLessEqual(len(rows), 400)
                self.assertLessEqual(max(len(row) for row in rows), 120)
                self.assertTrue(all(sign == "\n" or " " <= sign <= "~" for sign in text))
                self.assertIsNone(WORDS.search(text))

    def test_functions_are_small_and_plain(self):
        for where, node in self.each_node():
            if isinstance(node, ast.FunctionDef):
                self.assertLessEqual(node.end_lineno - node.lineno + 1, 40, where)
                self.assertEqual(node.decorator_list, [], where)
                stars = (node.args.vararg, node.args.kwarg, node.args.posonlyargs)
                self.assertEqual(stars, (None, None, []), where)

    def test_nothing_that_is_out_stands_there(self):
        for where, node in self.each_node():
            self.assertNotIsInstance(node, OUT, where)
            if isinstance(node, ast.Constant):
                self.assertNotIsInstance(node.value, (float, complex), where)
                self.assertFalse(isinstance(node.value, str) and "%" in node.value, where)
            if isinstance(node, ast.BinOp) and isinstance(node.op, ast.Pow):
                self.assertIsInstance(node.right, ast.Constant, where)

    def test_only_the_package_s_own_files_are_drawn_from(self):
        for where, node in self.each_node():
            if isinstance(node, ast.ImportFrom):
                self.assertEqual(node.level, 0, where)
                self.assertTrue(node.module.startswith("roadsettings."), where)
                self.assertNotIn("*", [drawn.name for drawn in node.names], where)

    def test_python_s_own_names(self):
        for where, node in self.each_node():
            if isinstance(node, ast.Name) and hasattr(builtins, node.id):
                self.assertIn(node.id, OWN_NAMES, where)
                self.assertIsInstance(node.ctx, ast.Load, where)
            for name in bound_names(node):
                self.assertTrue(name in UNDERSCORED or not name.startswith("_"), where)

    def test_no_local_is_called_like_an_import_a_class_or_python_s_own(self):
        for path in files():
            tree = ast.parse(path.read_text(encoding="utf-8"))
            taken = tops_taken(tree) | set(dir(builtins))
            for node in ast.walk(tree):
                for name in bound_names(node) if isinstance(node, (ast.Name, ast.arg)) else ():
                    self.assertNotIn(name, taken, f"{path.name}, row {node.lineno}")

    def test_names_that_are_not_used(self):
        for where, node in self.each_node():
            for name in bound_names(node):
                self.assertNotIn(name, NOT_USED, where)

    def test_no_name_is_a_method_and_a_value(self):
        nodes = [node for where, node in self.each_node()]
        classes = [node for node in nodes if isinstance(node, ast.ClassDef)]
        methods = {row.name for node in classes for row in node.body if isinstance(row, ast.FunctionDef)}
        asked = [node for node in nodes if isinstance(node, ast.Attribute)]
        values = {node.attr for node in asked if isinstance(node.ctx, ast.Store)}
        self.assertEqual(values & (methods | VALUES_OUT), set())
        self.assertEqual({node.attr for node in asked} - values - methods - METHODS, set())

    def test_what_stands_at_the_top_of_files_and_classes(self):
        for path in files():
            first, *rows = ast.parse(path.read_text(encoding="utf-8")).body
            self.assertIsInstance(ast.literal_eval(first.value), str, path.name)
            for row in rows:
                self.assertIsInstance(row, (ast.ImportFrom, ast.FunctionDef, ast.ClassDef, ast.Assign), path.name)
                for inner in row.body[1:] if isinstance(row, ast.ClassDef) else ():
                    self.assertIsInstance(inner, ast.FunctionDef, path.name)

    def test_is_stands_beside_none_true_and_false_alone(self):
        for where, node in self.each_node():
            if isinstance(node, ast.Compare) and any(isinstance(sign, (ast.Is, ast.IsNot)) for sign in node.ops):
                self.assertIsInstance(node.comparators[0], ast.Constant, where)
                self.assertIn(node.comparators[0].value, (None, True, False), where)

    def test_loops_tries_and_raises(self):
        for where, node in self.each_node():
            if isinstance(node, (ast.For, ast.While)):
                self.assertEqual(node.orelse, [], where)
            if isinstance(node, ast.ExceptHandler):
                self.assertIsInstance(node.type, ast.Name, where)
                self.assertNotIn(node.type.id, ("Exception", "TypeError", "ValueError"), where)
            if isinstance(node, ast.Raise) and node.exc is not None:
                self.assertIsInstance(node.exc, ast.Call, where)
                self.assertIsInstance(node.exc.func, ast.Name, where)

    def test_what_is_walked_is_walked_on_the_spot(self):
        for where, node in self.each_node():
            for child in ast.iter_child_nodes(node):
                if called(child) in ON_THE_SPOT:
                    self.assertTrue(walked_on_the_spot(node, child), where)

    def test_no_stars_in_calls_and_no_formats_in_texts(self):
        for where, node in self.each_node():
            if isinstance(node, ast.Call):
                self.assertFalse([part for part in node.args if isinstance(part, ast.Starred)], where)
                self.assertNotIn(None, [word.arg for word in node.keywords], where)
            if isinstance(node, ast.FormattedValue):
                self.assertIsNone(node.format_spec, where)

    def test_no_two_files_draw_from_one_another(self):
        left = {path.stem: drawn_from(path) for path in files()}
        while left:
            free = [name for name in left if not left[name] & set(left)]
            self.assertNotEqual(free, [], left)
            left = {name: left[name] for name in left if name not in free}


if __name__ == "__main__":
    unittest.main()
