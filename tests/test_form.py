"""The form of the package's files: what can be checked of the part of Python that it keeps to."""

import ast
import builtins
import pathlib
import re
import unittest

PACKAGE = pathlib.Path(__file__).resolve().parent.parent / "countboard"
FILES = sorted(PACKAGE.glob("*.py"))

NODES = set(
    "Module Expr Constant ImportFrom alias FunctionDef ClassDef arguments arg Return Assign AugAssign If While For "
    "Break Continue Pass Raise Try ExceptHandler Call Attribute Subscript Slice Name Load Store List Tuple Dict Set "
    "ListComp comprehension Lambda IfExp BoolOp And Or UnaryOp Not USub Invert BinOp Add Sub Mult FloorDiv Mod Pow "
    "BitAnd BitOr BitXor LShift RShift Compare Eq NotEq Lt LtE Gt GtE In NotIn Is IsNot JoinedStr FormattedValue".split()
)
OWN_NAMES = set(
    "len range enumerate zip min max sum abs sorted reversed int str bool list tuple dict set frozenset isinstance ord "
    "repr any all divmod Exception ValueError TypeError KeyError IndexError LookupError ZeroDivisionError "
    "ArithmeticError OverflowError RuntimeError NotImplementedError StopIteration".split()
)
METHODS = set(
    "append clear copy count endswith extend find get index insert isalnum isalpha isdigit islower isspace isupper "
    "items join keys ljust lower lstrip partition pop remove replace reverse rfind rjust rpartition rsplit rstrip "
    "setdefault split splitlines startswith strip update upper values zfill bit_length".split()
)
WORDS = (
    r"\b(type|typing|typing_extensions|enum|Enum|IntEnum|StrEnum|Flag|IntFlag|Generic|Protocol|ABC|ABCMeta|namedtuple|"
    r"NamedTuple|TypedDict|TYPE_CHECKING|abstractmethod)\b|dataclass|overload|contextmanager"
)


def walked():
    """Every node of every file, with the file's name."""
    return [(path.name, node) for path in FILES for node in ast.walk(ast.parse(path.read_text()))]


def nodes_of(kind):
    return [(name, node) for name, node in walked() if isinstance(node, kind)]


def bound_names(tree):
    """The names that a tree binds: targets, parameters, functions and classes."""
    told = []
    for node in ast.walk(tree):
        if isinstance(node, ast.Name) and isinstance(node.ctx, ast.Store):
            told.append(node.id)
        elif isinstance(node, ast.arg):
            told.append(node.arg)
        elif isinstance(node, (ast.FunctionDef, ast.ClassDef)):
            told.append(node.name)
    return told


def top_names(path):
    """The names that a file defines at its top."""
    tree = ast.parse(path.read_text())
    told = [node.name for node in tree.body if isinstance(node, (ast.FunctionDef, ast.ClassDef))]
    return told + [node.targets[0].id for node in tree.body if isinstance(node, ast.Assign)]


class Form(unittest.TestCase):
    def test_files(self):
        lying = [path.name for path in PACKAGE.iterdir() if path.name != "__pycache__"]
        self.assertEqual(sorted(lying), [path.name for path in FILES])
        self.assertIn("__init__.py", lying)
        for name in lying:
            self.assertRegex(name, r"^[a-z][a-z0-9_]*\.py$|^__init__\.py$")

    def test_signs_and_sizes(self):
        for path in FILES:
            text = path.read_bytes().decode("ascii")
            self.assertRegex(text, r"\A[\n -~]*\Z", path.name)
            self.assertLessEqual(text.count("\n"), 400, path.name)
            self.assertLessEqual(max(len(row) for row in text.split("\n")), 120, path.name)
            self.assertIsNone(re.search(WORDS, text), path.name)

    def test_functions_are_short_and_plain(self):
        for name, node in nodes_of(ast.FunctionDef):
            where = (name, node.name)
            self.assertLessEqual(node.end_lineno - node.lineno + 1, 40, where)
            self.assertEqual(node.decorator_list, [], where)
            self.assertEqual((node.args.vararg, node.args.kwarg, node.args.kwonlyargs), (None, None, []), where)

    def test_statements_and_expressions(self):
        for name, node in walked():
            where = (name, getattr(node, "lineno", 0))
            self.assertIn(type(node).__name__, NODES, where)
            if isinstance(node, ast.Constant):
                self.assertIn(type(node.value), (int, str, bool, type(None)), where)
            if isinstance(node, (ast.For, ast.While)):
                self.assertEqual(node.orelse, [], where)
            if isinstance(node, ast.Assign):
                self.assertEqual(len(node.targets), 1, where)
                self.assertNotIsInstance(node.targets[0], (ast.Tuple, ast.List), where)

    def test_the_top_of_a_file(self):
        for path in FILES:
            tree = ast.parse(path.read_text())
            self.assertIsNotNone(ast.get_docstring(tree), path.name)
            for node in tree.body[1:]:
                self.assertIsInstance(node, (ast.ImportFrom, ast.FunctionDef, ast.ClassDef, ast.Assign), path.name)
            names = top_names(path)
            self.assertEqual(len(names), len(set(names)), path.name)

    def test_imports_draw_from_the_file_that_defines_the_name(self):
        for name, node in nodes_of(ast.ImportFrom):
            self.assertEqual(node.level, 0, name)
            package, dot, module = node.module.partition(".")
            self.assertEqual(package, "countboard", name)
            for drawn in node.names:
                self.assertIsNone(drawn.asname, name)
                self.assertIn(drawn.name, top_names(PACKAGE / f"{module}.py"), name)

    def test_names(self):
        for path in FILES:
            tree = ast.parse(path.read_text())
            drawn = [each.name for node in tree.body if isinstance(node, ast.ImportFrom) for each in node.names]
            for bound in bound_names(tree):
                self.assertRegex(bound, r"^[A-Za-z][A-Za-z0-9_]*$|^__init__$", path.name)
                self.assertFalse(hasattr(builtins, bound), (path.name, bound))
                self.assertNotIn(bound, drawn, path.name)

    def test_names_of_pythons_own(self):
        for name, node in nodes_of(ast.Name):
            if hasattr(builtins, node.id):
                self.assertIn(node.id, OWN_NAMES, (name, node.lineno))

    def test_methods(self):
        for name, node in nodes_of(ast.Attribute):
            self.assertIn(node.attr, METHODS, (name, node.lineno))


if __name__ == "__main__":
    unittest.main()
