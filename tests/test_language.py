"""The rules of ../shared/LANGUAGE.md that a walk over the syntax can see."""

import ast
import builtins
import pathlib
import re
import unittest

ROOT = pathlib.Path(__file__).resolve().parent.parent
PACKAGE = ROOT / "hookrail"
FILES = sorted(PACKAGE.rglob("*.py"))

OWN_NAMES = set(
    "len range enumerate zip min max sum abs sorted reversed int str bool list tuple dict set frozenset isinstance "
    "ord repr any all divmod Exception ValueError TypeError KeyError IndexError LookupError ZeroDivisionError "
    "ArithmeticError OverflowError RuntimeError NotImplementedError AttributeError StopIteration".split()
)
METHODS = set(
    "append clear copy count endswith extend find get index insert isalnum isalpha isdigit islower isspace isupper "
    "items join keys ljust lower lstrip partition pop remove replace reverse rfind rjust rpartition rsplit rstrip "
    "setdefault split splitlines startswith strip update upper values zfill bit_length add discard".split()
)
WORDS_OUT = (
    "type typing typing_extensions enum Enum IntEnum StrEnum Flag IntFlag Generic Protocol ABC ABCMeta namedtuple "
    "NamedTuple TypedDict TYPE_CHECKING abstractmethod".split()
)
NODES_OUT = (
    ast.With, ast.Match, ast.Delete, ast.Global, ast.Nonlocal, ast.Assert, ast.Yield, ast.YieldFrom, ast.Await,
    ast.AsyncFunctionDef, ast.AsyncFor, ast.AsyncWith, ast.SetComp, ast.DictComp, ast.GeneratorExp, ast.NamedExpr,
    ast.Starred, ast.Div, ast.Import, ast.AnnAssign,
)


WALKED_AT_ONCE = {"zip", "enumerate", "reversed", "range"}
WALKED_METHODS = {"items", "keys", "values"}
WALKERS = {"list", "tuple", "dict", "sorted", "sum", "any", "all", "enumerate", "zip", "min", "max"}


def name_called(node):
    return node.func.id if isinstance(node, ast.Call) and isinstance(node.func, ast.Name) else None


def parents_of(tree):
    return {child: node for node in ast.walk(tree) for child in ast.iter_child_nodes(node)}


def python_own_attributes():
    names = set()
    for kind in (str, int, list, tuple, dict, set, frozenset, bytes):
        names.update(name for name in dir(kind) if not name.startswith("_"))
    return names


class Language(unittest.TestCase):
    def walk(self):
        for path in FILES:
            for node in ast.walk(ast.parse(path.read_text(encoding="utf-8"))):
                yield f"{path.name}:{getattr(node, 'lineno', 0)}", node

    def test_nothing_else_lies_in_the_package(self):
        self.assertIn(PACKAGE / "__init__.py", FILES)
        for path in PACKAGE.rglob("*"):
            if "__pycache__" not in path.parts:
                self.assertRegex(path.name, r"^[a-z0-9_]+(\.py)?$")

    def test_signs_and_sizes(self):
        for path in FILES:
            text = path.read_text(encoding="utf-8")
            self.assertRegex(text, r"\A[\n -~]*\Z", path.name)
            lines = text.split("\n")
            self.assertLessEqual(len(lines), 401, path.name)
            self.assertLessEqual(max(len(line) for line in lines), 120, path.name)
            for word in WORDS_OUT:
                self.assertIsNone(re.search(rf"\b{word}\b", text), f"{path.name}: {word}")

    def test_the_top_of_each_module(self):
        for path in FILES:
            tree = ast.parse(path.read_text(encoding="utf-8"))
            bound = []
            for number, node in enumerate(tree.body):
                where = f"{path.name}:{node.lineno}"
                if isinstance(node, ast.Assign):
                    # Raises where the value isn't a plain one.
                    value = ast.literal_eval(node.value)
                    self.assertNotIsInstance(value, (set, frozenset), where)
                    inner = list(value.values()) if isinstance(value, dict) else value
                    if isinstance(inner, list):
                        self.assertFalse([one for one in inner if isinstance(one, (list, dict))], where)
                    bound.append(node.targets[0].id)
                elif isinstance(node, (ast.FunctionDef, ast.ClassDef)):
                    bound.append(node.name)
                elif isinstance(node, ast.ImportFrom):
                    bound += [alias.asname or alias.name for alias in node.names]
                else:
                    self.assertTrue(number == 0 and isinstance(node.value, ast.Constant), where)
            self.assertEqual(len(bound), len(set(bound)), path.name)

    def test_statements_and_expressions(self):
        for where, node in self.walk():
            self.assertNotIsInstance(node, NODES_OUT, where)
            if isinstance(node, (ast.For, ast.While)):
                self.assertEqual(node.orelse, [], where)
            if isinstance(node, ast.Try):
                self.assertEqual(node.finalbody, [], where)
            if isinstance(node, ast.Assign):
                self.assertEqual(len(node.targets), 1, where)
            if isinstance(node, ast.ListComp):
                self.assertEqual(len(node.generators), 1, where)
                self.assertLessEqual(len(node.generators[0].ifs), 1, where)
            if isinstance(node, ast.Constant):
                self.assertNotIsInstance(node.value, (float, complex, bytes), where)
                if isinstance(node.value, str):
                    self.assertNotIn("%", node.value, where)
            if isinstance(node, ast.FormattedValue):
                self.assertIsInstance(node.value, ast.Name, where)
                self.assertIsNone(node.format_spec, where)

    def test_functions_and_classes(self):
        for where, node in self.walk():
            if isinstance(node, ast.FunctionDef):
                self.assertLessEqual(node.end_lineno - node.lineno + 1, 40, where)
                self.assertEqual(node.decorator_list, [], where)
                arguments = node.args
                self.assertIsNone(arguments.vararg or arguments.kwarg, where)
                self.assertEqual(arguments.kwonlyargs + arguments.posonlyargs, [], where)
            if isinstance(node, ast.ClassDef):
                self.assertEqual(node.decorator_list + node.keywords, [], where)
                self.assertLessEqual(len(node.bases), 1, where)

    def test_imports(self):
        for where, node in self.walk():
            if isinstance(node, ast.ImportFrom) and node.module != "__future__":
                self.assertEqual(node.level, 0, where)
                self.assertRegex(node.module, r"^hookrail\.[a-z0-9_]+$", where)
                self.assertNotIn("*", [alias.name for alias in node.names], where)

    def test_names(self):
        own_attributes = python_own_attributes()
        for where, node in self.walk():
            if isinstance(node, ast.Name):
                self.assertFalse(node.id.startswith("_"), where)
                if hasattr(builtins, node.id):
                    self.assertIn(node.id, OWN_NAMES, where)
                    self.assertIsInstance(node.ctx, ast.Load, where)
            if isinstance(node, ast.arg):
                self.assertFalse(node.arg.startswith("_") or hasattr(builtins, node.arg), where)
            if isinstance(node, ast.Attribute) and node.attr in own_attributes:
                self.assertIn(node.attr, METHODS, where)

    def test_names_are_drawn_from_the_file_that_defines_them(self):
        drawn = {}
        for path in FILES:
            tree = ast.parse(path.read_text(encoding="utf-8"))
            rows = [node for node in tree.body if isinstance(node, ast.ImportFrom) and node.module != "__future__"]
            drawn[path.stem] = [node.module.split(".")[1] for node in rows]
            for node in rows:
                source = ast.parse((PACKAGE / (node.module.split(".")[1] + ".py")).read_text(encoding="utf-8"))
                defined = [one.name for one in source.body if isinstance(one, (ast.FunctionDef, ast.ClassDef))]
                for alias in node.names:
                    self.assertIn(alias.name, defined, f"{path.name}:{node.lineno}")
        while drawn:
            free = [name for name in drawn if not set(drawn[name]) & set(drawn)]
            self.assertTrue(free, f"these draw from one another: {sorted(drawn)}")
            for name in free:
                drawn.pop(name)

    def test_no_local_is_called_like_an_import_or_a_class(self):
        for path in FILES:
            tree = ast.parse(path.read_text(encoding="utf-8"))
            taken = [node.name for node in tree.body if isinstance(node, ast.ClassDef)]
            for node in tree.body:
                if isinstance(node, ast.ImportFrom):
                    taken += [alias.asname or alias.name for alias in node.names]
            for node in ast.walk(tree):
                if isinstance(node, ast.arg):
                    self.assertNotIn(node.arg, taken, f"{path.name}:{node.lineno}")
                if isinstance(node, ast.Name) and isinstance(node.ctx, ast.Store):
                    self.assertNotIn(node.id, taken, f"{path.name}:{node.lineno}")

    def test_is_stands_beside_none_and_truths(self):
        for where, node in self.walk():
            if isinstance(node, ast.Compare) and any(isinstance(sign, (ast.Is, ast.IsNot)) for sign in node.ops):
                self.assertTrue(any(
                    isinstance(side, ast.Constant) and side.value in (None, True, False) for side in node.comparators
                ), where)

    def test_walked_at_once(self):
        for path in FILES:
            tree = ast.parse(path.read_text(encoding="utf-8"))
            parents = parents_of(tree)
            for node in ast.walk(tree):
                own = name_called(node) in WALKED_AT_ONCE
                method = isinstance(node, ast.Call) and isinstance(node.func, ast.Attribute)
                if own or method and node.func.attr in WALKED_METHODS:
                    parent = parents[node]
                    walked = isinstance(parent, (ast.For, ast.comprehension)) and parent.iter is node
                    joined = isinstance(parent, ast.Call) and isinstance(parent.func, ast.Attribute)
                    joined = joined and parent.func.attr == "join"
                    self.assertTrue(walked or joined or name_called(parent) in WALKERS, f"{path.name}:{node.lineno}")

    def test_sets_are_not_kept(self):
        for path in FILES:
            tree = ast.parse(path.read_text(encoding="utf-8"))
            parents = parents_of(tree)
            for node in ast.walk(tree):
                if name_called(node) in ("set", "frozenset") or isinstance(node, ast.Set):
                    parent = parents[node]
                    while isinstance(parent, ast.BinOp):
                        parent = parents[parent]
                    fits = isinstance(parent, ast.Compare) or name_called(parent) in ("sorted", "len")
                    self.assertTrue(fits, f"{path.name}:{node.lineno}")


if __name__ == "__main__":
    unittest.main()
