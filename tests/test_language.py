"""Those rules of LANGUAGE.md that can be looked up in the code in a few lines."""

import ast
import builtins
import re
import unittest
from pathlib import Path

PACKAGE = Path(__file__).resolve().parent.parent / "mingleway"
BUILTINS = set(
    "len range enumerate zip min max sum abs sorted reversed int str bool bytes list tuple dict set frozenset isinstance"
    " ord repr any all divmod Exception ValueError TypeError KeyError IndexError LookupError ZeroDivisionError"
    " ArithmeticError OverflowError RuntimeError NotImplementedError AttributeError StopIteration NotImplemented"
    " super property staticmethod classmethod".split())
DOUBLE = {"__init__", "__eq__", "__repr__", "__str__", "__len__"}
WORDS = re.compile(
    r"\b(type|typing|typing_extensions|enum|Enum|IntEnum|StrEnum|Flag|IntFlag|Generic|Protocol|ABC|ABCMeta|namedtuple"
    r"|NamedTuple|TypedDict|TYPE_CHECKING|abstractmethod)\b|dataclass|overload|contextmanager")
UNUSED = {"register", "mro", "elements", "open", "input", "version_info", "with_traceback", "add_note"}
TAKE_LISTS = {"any", "all", "min", "max", "sum", "sorted"}


def bound_names(tree):
    """Names of variables, parameters, functions and classes; those of methods are freer."""
    methods = [part for node in ast.walk(tree) if isinstance(node, ast.ClassDef) for part in node.body]
    for node in ast.walk(tree):
        if isinstance(node, ast.Name) and isinstance(node.ctx, ast.Store):
            yield node.id
        elif isinstance(node, ast.arg):
            yield node.arg
        elif isinstance(node, (ast.FunctionDef, ast.ClassDef)) and node not in methods:
            yield node.name


class TestLanguage(unittest.TestCase):
    def setUp(self):
        self.texts = {path.name: path.read_text(encoding="utf-8") for path in sorted(PACKAGE.glob("*.py"))}
        self.trees = {name: ast.parse(text) for name, text in self.texts.items()}

    def nodes(self, *kinds):
        for name, tree in self.trees.items():
            for node in ast.walk(tree):
                if isinstance(node, kinds):
                    yield f"{name}:{getattr(node, 'lineno', 0)}", node

    def test_files(self):
        found = [path.name for path in PACKAGE.iterdir() if path.name != "__pycache__"]
        self.assertEqual(sorted(found), sorted(self.texts))
        for name in found:
            self.assertRegex(name, r"^(__init__|[a-z][a-z0-9_]*)\.py$")

    def test_signs_and_lengths(self):
        for name, text in self.texts.items():
            self.assertRegex(text, r"\A[ -~\n]*\Z", name)
            self.assertLessEqual(len(text.splitlines()), 400, name)
            self.assertLessEqual(max(map(len, text.splitlines())), 120, name)
            self.assertIsNone(WORDS.search(text), name)
        for place, node in self.nodes(ast.FunctionDef):
            self.assertLessEqual(node.end_lineno - node.lineno, 39, place)

    def test_imports_name_the_file_that_defines(self):
        for place, node in self.nodes(ast.Import, ast.ImportFrom):
            self.assertIsInstance(node, ast.ImportFrom, place)
            package, _, module = node.module.partition(".")
            self.assertEqual((package, node.level), ("mingleway", 0), place)
            top = self.trees[module + ".py"].body
            defined = [name for part in top for name in bound_names(part)]
            for name in node.names:
                self.assertIn(name.name, defined, place)

    def test_no_two_files_import_from_each_other(self):
        above = {name[:-3]: {node.module.partition(".")[2] for node in tree.body if isinstance(node, ast.ImportFrom)}
                 for name, tree in self.trees.items()}
        while free := [name for name, others in above.items() if not others & set(above)]:
            above = {name: others for name, others in above.items() if name not in free}
        self.assertEqual(above, {})

    def test_numbers_and_strings(self):
        for place, node in self.nodes(ast.BinOp):
            self.assertFalse(isinstance(node.op, ast.Pow) and not isinstance(node.right, ast.Constant), place)
        for place, node in self.nodes(ast.Constant):
            self.assertFalse(isinstance(node.value, str) and "%" in node.value, place)
            self.assertNotIsInstance(node.value, float, place)

    def test_names(self):
        for name, tree in self.trees.items():
            imports = [item.name for node in tree.body if isinstance(node, ast.ImportFrom) for item in node.names]
            for bound in bound_names(tree):
                self.assertFalse(bound.startswith("_"), (name, bound))
                self.assertNotIn(bound, UNUSED, name)
                self.assertNotIn(bound, imports, name)
                self.assertNotIn(bound, dir(builtins), name)

    def test_builtins(self):
        for place, node in self.nodes(ast.Name):
            self.assertFalse(node.id in dir(builtins) and node.id not in BUILTINS, (place, node.id))

    def test_methods_and_attributes(self):
        methods = {part.name for _, node in self.nodes(ast.ClassDef) for part in node.body
                   if isinstance(part, ast.FunctionDef)}
        for name in methods:
            self.assertTrue(name in DOUBLE or not name.startswith("_"), name)
            self.assertNotIn(name, UNUSED)
        stored = {node.attr for _, node in self.nodes(ast.Attribute) if isinstance(node.ctx, ast.Store)}
        self.assertEqual(methods & stored, set())

    def test_lists_instead_of_generator_expressions(self):
        for place, node in self.nodes(ast.Call):
            if isinstance(node.func, ast.Name) and node.func.id in TAKE_LISTS:
                self.assertNotIsInstance(node.args[0], ast.GeneratorExp, place)

    def test_is_and_statements(self):
        for place, node in self.nodes(ast.Compare):
            for sign, right in zip(node.ops, node.comparators):
                if isinstance(sign, (ast.Is, ast.IsNot)):
                    self.assertIn(ast.unparse(right), ("None", "True", "False"), place)
        for place, node in self.nodes(ast.Global, ast.AsyncFunctionDef, ast.Div):
            self.fail(place)


if __name__ == "__main__":
    unittest.main()
