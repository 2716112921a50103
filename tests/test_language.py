"""The rules of ../shared/LANGUAGE.md that a walk over the syntax can see."""

import ast
import builtins
import pathlib
import re
import unittest

ROOT = pathlib.Path(__file__).resolve().parent.parent
PACKAGE = ROOT / "hookrail"
FILES = sorted(PACKAGE.rglob("*.py"))

OWN_NAMES = set(
    "len range enumerate zip min max sum abs sorted reversed int str bool list tuple dict set frozenset isinstance "
    "ord repr any all divmod Exception ValueError TypeError KeyError IndexError LookupError ZeroDivisionError "
    "ArithmeticError OverflowError RuntimeError NotImplementedError AttributeError StopIteration".split()
)
METHODS = set(
    "append clear copy count endswith extend find get index insert isalnum isalpha isdigit islower isspace isupper "
    "items join keys ljust lower lstrip partition pop remove replace reverse rfind rjust rpartition rsplit rstrip "
    "setdefault split splitlines startswith strip update upper values zfill bit_length add discard".split()
)
WORDS_OUT = (
    "type typing typing_extensions enum Enum IntEnum StrEnum Flag IntFlag Generic Protocol ABC ABCMeta namedtuple "
    "NamedTuple TypedDict TYPE_CHECKING abstractmethod".split()
)
NODES_OUT = (
    ast.With, ast.Match, ast.Delete, ast.Global, ast.Nonlocal, ast.Assert, ast.Yield, ast.YieldFrom, ast.Await,
    ast.AsyncFunctionDef, ast.AsyncFor, ast.AsyncWith, ast.SetComp, ast.DictComp, ast.GeneratorExp, ast.NamedExpr,
    ast.Starred, ast.Div, ast.Import, ast.AnnAssign,
)


def python_own_attributes():
    names = set()
    for kind in (str, int, list, tuple, dict, set, frozenset, bytes):
        names.update(name for name in dir(kind) if not name.startswith("_"))
    return names


class Language(unittest.TestCase):
    def walk(self):
        for path in FILES:
            for node in ast.walk(ast.parse(path.read_text(encoding="utf-8"))):
                yield f"{path.name}:{getattr(node, 'lineno', 0)}", node

    def test_nothing_else_lies_in_the_package(self):
        self.assertIn(PACKAGE / "__init__.py", FILES)
        for path in PACKAGE.rglob("*"):
            if "__pycache__" not in path.parts:
                self.assertRegex(path.name, r"^[a-z0-9_]+(\.py)?$")

    def test_signs_and_sizes(self):
        for path in FILES:
            text = path.read_text(encoding="utf-8")
            self.assertRegex(text, r"\A[\n -~]*\Z", path.name)
            lines = text.split("\n")
            self.assertLessEqual(len(lines), 401, path.name)
            self.assertLessEqual(max(len(line) for line in lines), 120, path.name)
            for word in WORDS_OUT:
                self.assertIsNone(re.search(rf"\b{word}\b", text), f"{path.name}: {word}")

    def test_statements_and_expressions(self):
        for where, node in self.walk():
            self.assertNotIsInstance(node, NODES_OUT, where)
            if isinstance(node, (ast.For, ast.While)):
                self.assertEqual(node.orelse, [], where)
            if isinstance(node, ast.Try):
                self.assertEqual(node.finalbody, [], where)
            if isinstance(node, ast.Assign):
                self.assertEqual(len(node.targets), 1, where)
            if isinstance(node, ast.ListComp):
                self.assertEqual(len(node.generators), 1, where)
                self.assertLessEqual(len(node.generators[0].ifs), 1, where)
            if isinstance(node, ast.Constant):
                self.assertNotIsInstance(node.value, (float, complex, bytes), where)

    def test_functions_and_classes(self):
        for where, node in self.walk():
            if isinstance(node, ast.FunctionDef):
                self.assertLessEqual(node.end_lineno - node.lineno + 1, 40, where)
                self.assertEqual(node.decorator_list, [], where)
                arguments = node.args
                self.assertIsNone(arguments.vararg or arguments.kwarg, where)
                self.assertEqual(arguments.kwonlyargs + arguments.posonlyargs, [], where)
            if isinstance(node, ast.ClassDef):
                self.assertEqual(node.decorator_list + node.keywords, [], where)
                self.assertLessEqual(len(node.bases), 1, where)

    def test_imports(self):
        for where, node in self.walk():
            if isinstance(node, ast.ImportFrom) and node.module != "__future__":
                self.assertEqual(node.level, 0, where)
                self.assertRegex(node.module, r"^hookrail\.[a-z0-9_]+$", where)
                self.assertNotIn("*", [alias.name for alias in node.names], where)

    def test_names(self):
        own_attributes = python_own_attributes()
        for where, node in self.walk():
            if isinstance(node, ast.Name):
                self.assertFalse(node.id.startswith("_"), where)
                if hasattr(builtins, node.id):
                    self.assertIn(node.id, OWN_NAMES, where)
                    self.assertIsInstance(node.ctx, ast.Load, where)
            if isinstance(node, ast.arg):
                self.assertFalse(node.arg.startswith("_") or hasattr(builtins, node.arg), where)
            if isinstance(node, ast.Attribute) and node.attr in own_attributes:
                self.assertIn(node.attr, METHODS, where)


if __name__ == "__main__":
    unittest.main()
