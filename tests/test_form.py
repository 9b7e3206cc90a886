"""The package keeps to the small part of Python that ../shared/LANGUAGE.md tells: what can be seen file by file."""

import ast
import builtins
import pathlib
import re
import unittest

PACKAGE = pathlib.Path(__file__).resolve().parent.parent / "weather"
FILES = sorted(PACKAGE.glob("*.py"))

# L4 to L7: what stands in the files is built of these alone.
NODES = set(
    """Module Expr Import ImportFrom alias FunctionDef arguments arg Lambda ClassDef Assign AugAssign If While For
    Return Break Continue Pass Raise Try ExceptHandler Constant Name Load Store Attribute Subscript Slice Call keyword
    Tuple List Dict Set ListComp comprehension BinOp UnaryOp BoolOp Compare IfExp JoinedStr FormattedValue
    Add Sub Mult FloorDiv Mod Pow LShift RShift BitAnd BitOr BitXor Invert UAdd USub Not And Or
    Eq NotEq Lt LtE Gt GtE Is IsNot In NotIn""".split()
)
# L8: of Python's own names these alone.
OWN_NAMES = set(
    """len range enumerate zip min max sum abs sorted reversed int str bool list tuple dict set frozenset isinstance
    ord repr any all divmod Exception ValueError TypeError KeyError IndexError LookupError ZeroDivisionError
    ArithmeticError OverflowError RuntimeError NotImplementedError AttributeError StopIteration""".split()
)
# L17: these stand nowhere in a file, remarks and texts too.
WORDS = re.compile(
    r"\b(type|typing|typing_extensions|enum|Enum|IntEnum|StrEnum|Flag|IntFlag|Generic|Protocol|ABC|ABCMeta|namedtuple"
    r"|NamedTuple|TypedDict|TYPE_CHECKING|abstractmethod)\b|dataclass|overload|contextmanager"
)
METHODS_WITH_UNDERSCORES = ("__init__", "__eq__", "__repr__", "__str__", "__len__")


def nodes_of(file):
    return list(ast.walk(ast.parse(file.read_text(encoding="ascii"))))


def bound_names(nodes):
    for node in nodes:
        if isinstance(node, (ast.FunctionDef, ast.ClassDef)):
            yield node.name
        if isinstance(node, ast.arg):
            yield node.arg
        if isinstance(node, ast.Name) and isinstance(node.ctx, ast.Store):
            yield node.id


class Form(unittest.TestCase):
    def test_the_package_holds_python_files_alone(self):
        self.assertIn(PACKAGE / "__init__.py", FILES)
        others = [path.name for path in PACKAGE.iterdir() if path not in FILES and path.name != "__pycache__"]
        self.assertEqual(others, [])
        for file in FILES:
            self.assertRegex(file.name, r"^([a-z][a-z0-9_]*|__init__|__main__)\.py$")

    def test_signs_and_sizes(self):
        for file in FILES:
            text = file.read_text(encoding="utf-8")
            self.assertRegex(text, r"\A[ -~\n]*\Z", file.name)
            self.assertLessEqual(len(text.splitlines()), 400, file.name)
            self.assertLessEqual(max(len(line) for line in text.splitlines()), 120, file.name)
            for node in nodes_of(file):
                if isinstance(node, ast.FunctionDef):
                    self.assertLessEqual(node.end_lineno - node.lineno + 1, 40, (file.name, node.name))

    def test_words_that_stand_nowhere(self):
        for file in FILES:
            self.assertIsNone(WORDS.search(file.read_text(encoding="utf-8")), file.name)

    def test_what_the_files_are_built_of(self):
        for file in FILES:
            for node in nodes_of(file):
                self.assertIn(node.__class__.__name__, NODES, (file.name, getattr(node, "lineno", None)))

    def test_plain_values_alone(self):
        for file in FILES:
            for node in nodes_of(file):
                if isinstance(node, ast.Constant):
                    self.assertIn(type(node.value), (int, str, bool, type(None)), (file.name, node.lineno))

    def test_imports_are_the_packages_own(self):
        for file in FILES:
            for node in nodes_of(file):
                if isinstance(node, ast.ImportFrom):
                    self.assertEqual(node.level, 0, file.name)
                    self.assertTrue((PACKAGE.parent / (node.module.replace(".", "/") + ".py")).is_file(), node.module)
                    self.assertTrue(node.module.startswith("weather."), node.module)
                    self.assertNotIn("*", [drawn.name for drawn in node.names], file.name)
                self.assertFalse(isinstance(node, ast.Import) and file.name != "__main__.py", file.name)

    def test_names(self):
        for file in FILES:
            nodes = nodes_of(file)
            for name in bound_names(nodes):
                if name not in METHODS_WITH_UNDERSCORES:
                    self.assertRegex(name, r"^[A-Za-z][A-Za-z0-9_]*$", file.name)
                    self.assertFalse(hasattr(builtins, name), (file.name, name))
            for node in nodes:
                if isinstance(node, ast.Name) and hasattr(builtins, node.id) and file.name != "__main__.py":
                    self.assertIn(node.id, OWN_NAMES, (file.name, node.lineno))


if __name__ == "__main__":
    unittest.main()
