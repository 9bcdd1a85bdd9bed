"""The rows of LANGUAGE.md that can be looked at by a file's text and its syntax tree."""

import ast
import builtins
import re
import unittest
from pathlib import Path

import ringfell

PACKAGE = Path(ringfell.__file__).parent
FILES = sorted(PACKAGE.rglob("*.py"))

NODES = (ast.With, ast.Match, ast.Delete, ast.Global, ast.Nonlocal, ast.Assert, ast.Yield, ast.YieldFrom,
         ast.AsyncFor, ast.AsyncFunctionDef, ast.AsyncWith, ast.Await, ast.SetComp, ast.DictComp, ast.GeneratorExp,
         ast.NamedExpr, ast.Starred, ast.Div, ast.MatMult, ast.Import)
WORDS = ("type typing typing_extensions enum Enum IntEnum StrEnum Flag IntFlag Generic Protocol ABC ABCMeta "
         "namedtuple NamedTuple TypedDict TYPE_CHECKING abstractmethod").split()
PARTS = ("dataclass", "overload", "contextmanager")
OWN_NAMES = ("len range enumerate zip min max sum abs sorted reversed int str bool list tuple dict set frozenset "
             "isinstance ord repr any all divmod Exception ValueError TypeError KeyError IndexError LookupError "
             "ZeroDivisionError ArithmeticError OverflowError RuntimeError NotImplementedError AttributeError "
             "StopIteration").split()
METHODS = ("append clear copy count endswith extend find get index insert isalnum isalpha isdigit islower isspace "
           "isupper items join keys ljust lower lstrip partition pop remove replace reverse rfind rjust rpartition "
           "rsplit rstrip setdefault split splitlines startswith strip update upper values zfill bit_length").split()
UNDERSCORED = ("__init__", "__eq__", "__repr__", "__str__", "__len__", "__all__", "__version__", "__name__")


def trees():
    for path in FILES:
        yield path, ast.parse(path.read_text(encoding="ascii"))


def nodes(kinds):
    for path, tree in trees():
        for node in ast.walk(tree):
            if isinstance(node, kinds):
                yield path, node


def parents(kinds):
    """Nodes of these kinds, each with the node that it stands in."""
    for path, node in nodes(ast.AST):
        for child in ast.iter_child_nodes(node):
            if isinstance(child, kinds):
                yield path, child, node


def called(node):
    """The name of what is called, of a method too; None where nothing is."""
    if not isinstance(node, ast.Call):
        return None
    return node.func.attr if isinstance(node.func, ast.Attribute) else getattr(node.func, "id", None)


class Texts(unittest.TestCase):
    def test_files(self):
        """L1, L14"""
        self.assertEqual(PACKAGE.name, "ringfell")
        for path in PACKAGE.rglob("*"):
            if "__pycache__" not in path.parts:
                self.assertRegex(path.name, r"^[a-z0-9_]+\.py$")

    def test_signs_and_sizes(self):
        """L10, L14"""
        for path in FILES:
            text = path.read_bytes().decode("ascii")
            self.assertRegex(text, r"\A[\n -~]*\Z", path)
            self.assertLessEqual(len(text.splitlines()), 400, path)
            self.assertLessEqual(max(map(len, text.splitlines()), default=0), 120, path)
        for path, node in nodes(ast.FunctionDef):
            self.assertLessEqual(node.end_lineno - node.lineno + 1, 40, (path, node.name))

    def test_words(self):
        """L17"""
        for path in FILES:
            text = path.read_text(encoding="ascii")
            self.assertFalse(set(re.findall(r"\w+", text)) & set(WORDS), path)
            self.assertFalse([part for part in PARTS if part in text], path)


class Trees(unittest.TestCase):
    def test_statements_and_expressions(self):
        """L6, L7"""
        for path, node in nodes(NODES):
            if path.name != "__main__.py" or not isinstance(node, ast.Import):
                self.fail((path, node.lineno, node))
        for path, node in nodes((ast.For, ast.While)):
            self.assertFalse(node.orelse, (path, node.lineno))
        for path, node in nodes(ast.Try):
            self.assertFalse(node.finalbody, (path, node.lineno))
        for path, node in nodes(ast.Assign):
            self.assertEqual(len(node.targets), 1, (path, node.lineno))
        for path, node in nodes(ast.ListComp):
            self.assertEqual(len(node.generators), 1, (path, node.lineno))
            self.assertLessEqual(len(node.generators[0].ifs), 1, (path, node.lineno))
        for path, node in nodes(ast.Constant):
            self.assertNotIsInstance(node.value, (float, complex, bytes), (path, node.lineno))
        for path, node in nodes(ast.FormattedValue):
            self.assertIsInstance(node.value, ast.Name, (path, node.lineno))
            self.assertIsNone(node.format_spec, (path, node.lineno))

    def test_imports(self):
        """L2, L16"""
        for path, node in nodes(ast.ImportFrom):
            self.assertEqual(node.level, 0, (path, node.lineno))
            self.assertRegex(node.module, r"^(ringfell\.[a-z0-9_]+|__future__)$", (path, node.lineno))
            self.assertNotIn("*", [name.name for name in node.names], (path, node.lineno))

    def test_functions_and_classes(self):
        """L4, L5, L21"""
        for path, node in nodes((ast.FunctionDef, ast.ClassDef)):
            self.assertFalse(node.decorator_list, (path, node.lineno))
        for path, node in nodes(ast.ClassDef):
            self.assertLessEqual(len(node.bases), 1, (path, node.lineno))
            self.assertFalse(node.keywords, (path, node.lineno))
        for path, node in nodes(ast.arguments):
            self.assertFalse(node.vararg or node.kwarg or node.kwonlyargs or node.posonlyargs, path)

    def test_names(self):
        """L8, L12, L15, L17, L25"""
        builtin = set(dir(builtins)) - set(OWN_NAMES)
        own = {node.name for path, node in nodes(ast.FunctionDef)}
        for path, node in nodes(ast.Name):
            if path.name != "__main__.py":
                self.assertNotIn(node.id, builtin, (path, node.lineno))
                self.assertFalse(node.id.startswith("_"), (path, node.lineno))
            if isinstance(node.ctx, ast.Store):
                self.assertNotIn(node.id, dir(builtins), (path, node.lineno))
        for path, node in nodes((ast.FunctionDef, ast.ClassDef)):
            self.assertTrue(node.name in UNDERSCORED or not node.name.startswith("_"), (path, node.lineno))
        for path, node in nodes(ast.arg):
            self.assertFalse(node.arg.startswith("_") or node.arg in dir(builtins), (path, node.lineno))
        for path, node in nodes(ast.Call):
            if isinstance(node.func, ast.Attribute) and path.name != "__main__.py":
                self.assertIn(node.func.attr, set(METHODS) | own | {"__init__"}, (path, node.lineno))

    def test_is_beside_plain_values_alone(self):
        """L20"""
        for path, node in nodes(ast.Compare):
            for at, sign in enumerate(node.ops):
                if isinstance(sign, (ast.Is, ast.IsNot)):
                    pair = [node.left, *node.comparators][at:at + 2]
                    plain = [side for side in pair if isinstance(side, ast.Constant)]
                    self.assertTrue([side for side in plain if side.value in (None, True, False)], (path, node.lineno))

    def test_powers_and_texts(self):
        """L27"""
        for path, node in nodes(ast.BinOp):
            if isinstance(node.op, ast.Pow):
                self.assertIsInstance(node.right, ast.Constant, (path, node.lineno))
                self.assertLessEqual(node.right.value, 64, (path, node.lineno))
        for path, node in nodes(ast.Constant):
            if isinstance(node.value, str):
                self.assertNotIn("%", node.value, (path, node.lineno))

    def test_the_top_of_a_file(self):
        """L3, L15"""
        for path, tree in trees():
            bound = []
            for at, node in enumerate(tree.body):
                docstring = at == 0 and isinstance(node, ast.Expr) and isinstance(node.value, ast.Constant)
                kinds = (ast.ImportFrom, ast.FunctionDef, ast.ClassDef, ast.Assign)
                self.assertTrue(docstring or isinstance(node, kinds), (path, node.lineno))
                if isinstance(node, ast.Assign):
                    bound.append(node.targets[0].id)
                    inner = [child for child in ast.walk(node.value) if isinstance(child, (ast.List, ast.Dict))]
                    self.assertLessEqual(len(inner), 1, (path, node.lineno))
                elif isinstance(node, ast.ImportFrom):
                    bound += [name.name for name in node.names]
                elif not docstring:
                    bound.append(node.name)
            self.assertEqual(len(set(bound)), len(bound), path)

    def test_no_local_is_called_like_an_import_or_a_class(self):
        """L15"""
        for path, tree in trees():
            taken = [name.name for node in tree.body if isinstance(node, ast.ImportFrom) for name in node.names]
            taken += [node.name for node in tree.body if isinstance(node, (ast.ClassDef, ast.FunctionDef))]
            for node in ast.walk(tree):
                name = node.arg if isinstance(node, ast.arg) else None
                if isinstance(node, ast.Name) and isinstance(node.ctx, ast.Store):
                    name = node.id
                self.assertNotIn(name, taken, path)

    def test_what_is_walked_at_once(self):
        """L23"""
        walked = ("zip", "enumerate", "reversed", "range", "items", "keys", "values")
        takers = ("list", "tuple", "dict", "sorted", "sum", "any", "all", "enumerate", "zip", "min", "max")
        for path, node, parent in parents(ast.Call):
            if called(node) in walked:
                good = isinstance(parent, (ast.For, ast.comprehension)) and parent.iter is node
                self.assertTrue(good or called(parent) in takers, (path, node.lineno))

    def test_sets(self):
        """L24"""
        for path, node, parent in parents(ast.Call):
            if called(node) in ("set", "frozenset"):
                good = isinstance(parent, (ast.Compare, ast.BinOp)) or called(parent) in ("sorted", "len")
                self.assertTrue(good, (path, node.lineno))
        for path, node in nodes(ast.Set):
            self.fail((path, node.lineno))

    def test_keywords(self):
        """L22"""
        for path, node in nodes(ast.Call):
            names = [word.arg for word in node.keywords]
            allowed = {"sorted": ["key", "reverse"], "min": ["key", "default"], "max": ["key", "default"],
                       "sum": ["start"], "enumerate": ["start"], "zip": ["strict"]}
            self.assertLessEqual(set(names), set(allowed.get(called(node), [])), (path, node.lineno))

    def test_errors_are_taken_by_name(self):
        """L19"""
        own = {node.name for path, node in nodes(ast.ClassDef)}
        for path, node in nodes(ast.ExceptHandler):
            self.assertIsInstance(node.type, ast.Name, (path, node.lineno))
            self.assertIn(node.type.id, own | {"KeyError", "ZeroDivisionError"}, (path, node.lineno))

    def test_no_two_files_draw_from_one_another(self):
        """L16"""
        drawn = {path.stem: set() for path in FILES}
        for path, node in nodes(ast.ImportFrom):
            if node.module != "__future__":
                drawn[path.stem].add(node.module.split(".")[1])
        while drawn:
            free = [name for name in drawn if not drawn[name] & set(drawn)]
            self.assertTrue(free, drawn)
            for name in free:
                drawn.pop(name)


if __name__ == "__main__":
    unittest.main()
