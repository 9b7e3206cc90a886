"""The package keeps to the small part of Python that ../shared/LANGUAGE.md tells: what can be seen file by file."""

import ast
import builtins
import pathlib
import re
import unittest

PACKAGE = pathlib.Path(__file__).resolve().parent.parent / "weather"
FILES = sorted(PACKAGE.glob("*.py"))

# L4 to L7: what stands in the files is built of these alone.
NODES = set(
    """Module Expr Import ImportFrom alias FunctionDef arguments arg Lambda ClassDef Assign AugAssign If While For
    Return Break Continue Pass Raise Try ExceptHandler Constant Name Load Store Attribute Subscript Slice Call keyword
    Tuple List Dict Set ListComp comprehension BinOp UnaryOp BoolOp Compare IfExp JoinedStr FormattedValue
    Add Sub Mult FloorDiv Mod Pow LShift RShift BitAnd BitOr BitXor Invert UAdd USub Not And Or
    Eq NotEq Lt LtE Gt GtE Is IsNot In NotIn""".split()
)
# L8: of Python's own names these alone.
OWN_NAMES = set(
    """len range enumerate zip min max sum abs sorted reversed int str bool list tuple dict set frozenset isinstance
    ord repr any all divmod Exception ValueError TypeError KeyError IndexError LookupError ZeroDivisionError
    ArithmeticError OverflowError RuntimeError NotImplementedError AttributeError StopIteration""".split()
)
# L17: these stand nowhere in a file, remarks and texts too.
WORDS = re.compile(
    r"\b(type|typing|typing_extensions|enum|Enum|IntEnum|StrEnum|Flag|IntFlag|Generic|Protocol|ABC|ABCMeta|namedtuple"
    r"|NamedTuple|TypedDict|TYPE_CHECKING|abstractmethod)\b|dataclass|overload|contextmanager"
)
# L17: these are used nowhere, as names, methods or values.
UNUSED = set(
    """register mro elements open input version_info with_traceback add_note attrgetter breakpoint builtins compile
    copyright credits delattr dir eval exec exit gc getattr globals hasattr help id importlib license locals
    methodcaller os quit setattr super type vars sys __name__ format format_map""".split()
)
# L25: of Python's own methods these alone.
OWN_METHODS = set(
    """append clear copy count endswith extend find get index insert isalnum isalpha isdigit islower isspace isupper
    items join keys ljust lower lstrip partition pop remove replace reverse rfind rjust rpartition rsplit rstrip
    setdefault split splitlines startswith strip update upper values zfill bit_length""".split()
)
METHODS_WITH_UNDERSCORES = ("__init__", "__eq__", "__repr__", "__str__", "__len__")


def nodes_of(file):
    return list(ast.walk(ast.parse(file.read_text(encoding="ascii"))))


def bound_names(nodes):
    for node in nodes:
        if isinstance(node, (ast.FunctionDef, ast.ClassDef)):
            yield node.name
        if isinstance(node, ast.arg):
            yield node.arg
        if isinstance(node, ast.Name) and isinstance(node.ctx, ast.Store):
            yield node.id


def imports_of(file):
    return [node for node in nodes_of(file) if isinstance(node, ast.ImportFrom)]


def names_at_top(file):
    names = []
    for node in ast.parse(file.read_text(encoding="ascii")).body:
        if isinstance(node, (ast.FunctionDef, ast.ClassDef)):
            names.append(node.name)
        if isinstance(node, ast.Assign):
            names.extend(target.id for target in node.targets)
    return names


def file_of(module):
    return PACKAGE.parent / (module.replace(".", "/") + ".py")


def drawn_from(file, seen):
    for node in imports_of(file):
        if file_of(node.module) not in seen:
            seen.add(file_of(node.module))
            drawn_from(file_of(node.module), seen)
    return seen


class Form(unittest.TestCase):
    def test_the_package_holds_python_files_alone(self):
        self.assertIn(PACKAGE / "__init__.py", FILES)
        others = [path.name for path in PACKAGE.iterdir() if path not in FILES and path.name != "__pycache__"]
        self.assertEqual(others, [])
        for file in FILES:
            self.assertRegex(file.name, r"^([a-z][a-z0-9_]*|__init__|__main__)\.py$")

    def test_signs_and_sizes(self):
        for file in FILES:
            text = file.read_text(encoding="utf-8")
            self.assertRegex(text, r"\A[ -~\n]*\Z", file.name)
            self.assertLessEqual(len(text.splitlines()), 400, file.name)
            self.assertLessEqual(max(len(line) for line in text.splitlines()), 120, file.name)
            for node in nodes_of(file):
                if isinstance(node, ast.FunctionDef):
                    self.assertLessEqual(node.end_lineno - node.lineno + 1, 40, (file.name, node.name))

    def test_words_that_stand_nowhere(self):
        for file in FILES:
            self.assertIsNone(WORDS.search(file.read_text(encoding="utf-8")), file.name)

    def test_what_the_files_are_built_of(self):
        for file in FILES:
            for node in nodes_of(file):
                self.assertIn(node.__class__.__name__, NODES, (file.name, getattr(node, "lineno", None)))

    def test_plain_values_alone(self):
        for file in FILES:
            for node in nodes_of(file):
                if isinstance(node, ast.Constant):
                    self.assertIn(type(node.value), (int, str, bool, type(None)), (file.name, node.lineno))

    def test_imports_are_the_packages_own(self):
        for file in FILES:
            for node in nodes_of(file):
                if isinstance(node, ast.ImportFrom):
                    self.assertEqual(node.level, 0, file.name)
                    self.assertTrue(file_of(node.module).is_file(), node.module)
                    self.assertTrue(node.module.startswith("weather."), node.module)
                    self.assertNotIn("*", [drawn.name for drawn in node.names], file.name)
                self.assertFalse(isinstance(node, ast.Import) and file.name != "__main__.py", file.name)

    def test_names(self):
        for file in FILES:
            nodes = nodes_of(file)
            for name in bound_names(nodes):
                if name not in METHODS_WITH_UNDERSCORES:
                    self.assertRegex(name, r"^[A-Za-z][A-Za-z0-9_]*$", file.name)
                    self.assertFalse(hasattr(builtins, name), (file.name, name))
            for node in nodes:
                if isinstance(node, ast.Name) and hasattr(builtins, node.id) and file.name != "__main__.py":
                    self.assertIn(node.id, OWN_NAMES, (file.name, node.lineno))

    def test_what_is_drawn_is_defined_there_and_no_two_files_draw_from_one_another(self):
        for file in FILES:
            for node in imports_of(file):
                for drawn in node.names:
                    self.assertIn(drawn.name, names_at_top(file_of(node.module)), file.name)
                    self.assertIsNone(drawn.asname, file.name)
            self.assertNotIn(file, drawn_from(file, set()))

    def test_each_name_at_the_top_once_and_none_within_like_an_import_or_a_class(self):
        for file in FILES:
            nodes = nodes_of(file)
            drawn = [name.name for node in imports_of(file) for name in node.names]
            at_top = names_at_top(file) + drawn
            self.assertEqual(len(at_top), len(set(at_top)), file.name)
            classes = [node.name for node in nodes if isinstance(node, ast.ClassDef)]
            bound = list(bound_names(node for node in nodes if not isinstance(node, ast.ClassDef)))
            self.assertEqual(set(bound) & set(drawn + classes), set(), file.name)

    def test_statements(self):
        for file in FILES:
            for node in nodes_of(file):
                place = (file.name, getattr(node, "lineno", None))
                if isinstance(node, ast.Assign):
                    self.assertEqual(len(node.targets), 1, place)
                    self.assertNotIsInstance(node.targets[0], (ast.Tuple, ast.List), place)
                if isinstance(node, (ast.For, ast.While)):
                    self.assertEqual(node.orelse, [], place)
                if isinstance(node, ast.Try):
                    self.assertEqual(node.finalbody, [], place)
                if isinstance(node, ast.ListComp):
                    self.assertEqual(len(node.generators), 1, place)
                    self.assertLessEqual(len(node.generators[0].ifs), 1, place)
                if isinstance(node, ast.FunctionDef):
                    self.assertEqual((node.decorator_list, node.args.vararg, node.args.kwarg), ([], None, None), place)
                if isinstance(node, ast.FormattedValue):
                    self.assertIsInstance(node.value, ast.Name, place)

    def test_is_stands_beside_none_true_and_false_alone(self):
        for file in FILES:
            for node in nodes_of(file):
                if isinstance(node, ast.Compare) and any(isinstance(sign, (ast.Is, ast.IsNot)) for sign in node.ops):
                    beside = node.comparators[-1]
                    self.assertTrue(isinstance(beside, ast.Constant) and beside.value in (None, True, False), file.name)

    def test_methods_and_names_that_are_used(self):
        nodes = [node for file in FILES for node in nodes_of(file)]
        own = {
            inner.name
            for node in nodes if isinstance(node, ast.ClassDef)
            for inner in node.body if isinstance(inner, ast.FunctionDef)
        }
        stored = set()
        for node in nodes:
            if isinstance(node, ast.Call) and isinstance(node.func, ast.Attribute):
                self.assertIn(node.func.attr, OWN_METHODS | own)
            if isinstance(node, ast.Attribute):
                self.assertNotIn(node.attr, UNUSED)
                if isinstance(node.ctx, ast.Store):
                    stored.add(node.attr)
            if isinstance(node, ast.Name):
                self.assertNotIn(node.id, UNUSED)
        self.assertEqual(stored & own, set())

    def test_no_percent_sign_within_a_text(self):
        for file in FILES:
            for node in nodes_of(file):
                if isinstance(node, ast.Constant) and isinstance(node.value, str):
                    self.assertNotIn("%", node.value, file.name)


if __name__ == "__main__":
    unittest.main()
