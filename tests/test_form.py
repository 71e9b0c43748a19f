"""The form of the package's files, as far as a test can see it."""

import ast
import builtins
import pathlib
import re
import unittest

PACKAGE = pathlib.Path(__file__).resolve().parent.parent / "triesroom"
FILES = sorted(PACKAGE.rglob("*.py"))

NODES = set(
    "Module Expr Constant ImportFrom alias FunctionDef arguments arg Return Name Load Store ClassDef Attribute"
    " Assign AugAssign If While For Break Continue Pass Raise Try ExceptHandler Call keyword Subscript Slice List"
    " Tuple Dict ListComp comprehension BinOp Add Sub Mult FloorDiv Mod Pow BitAnd BitOr BitXor LShift RShift"
    " UnaryOp USub Not BoolOp And Or Compare Eq NotEq Lt LtE Gt GtE Is IsNot In NotIn IfExp Lambda JoinedStr"
    " FormattedValue".split())
OWN_NAMES = set(
    "len range enumerate zip min max sum abs sorted reversed int str bool list tuple dict set frozenset isinstance"
    " ord repr any all divmod Exception ValueError TypeError KeyError IndexError LookupError ZeroDivisionError"
    " ArithmeticError OverflowError RuntimeError NotImplementedError AttributeError StopIteration".split())
METHODS = set(
    "append clear copy count endswith extend find get index insert isalnum isalpha isdigit islower isspace isupper"
    " items join keys ljust lower lstrip partition pop remove replace reverse rfind rjust rpartition rsplit rstrip"
    " setdefault split splitlines startswith strip update upper values zfill bit_length".split())
BANNED = re.compile(
    r"\b(type|typing|typing_extensions|enum|Enum|IntEnum|StrEnum|Flag|IntFlag|Generic|Protocol|ABC|ABCMeta|namedtuple"
    r"|NamedTuple|TypedDict|TYPE_CHECKING|abstractmethod)\b|dataclass|overload|contextmanager")
PYTHONS_OWN = set(dir(builtins))


def bound_names(tree):
    for node in ast.walk(tree):
        if isinstance(node, ast.Name) and isinstance(node.ctx, ast.Store):
            yield node.id
        elif isinstance(node, (ast.FunctionDef, ast.ClassDef)):
            yield node.name
        elif isinstance(node, ast.arg):
            yield node.arg


class Form(unittest.TestCase):
    def each(self):
        texts = [path.read_text(encoding="utf-8") for path in FILES]
        return [(path.name, text, ast.parse(text)) for path, text in zip(FILES, texts)]

    def test_nothing_else_lies_in_the_package(self):
        self.assertIn(PACKAGE / "__init__.py", FILES)
        others = [p for p in PACKAGE.rglob("*") if p not in FILES and "__pycache__" not in p.parts and p.is_file()]
        self.assertEqual(others, [])

    def test_size_and_signs(self):
        for name, text, tree in self.each():
            rows = text.split("\n")
            self.assertLessEqual(len(rows), 400, name)
            self.assertLessEqual(max(len(row) for row in rows), 120, name)
            self.assertRegex(text, r"\A[ -~\n]*\Z", name)
            self.assertIsNone(BANNED.search(text), name)
            for node in ast.walk(tree):
                if isinstance(node, ast.FunctionDef):
                    self.assertLessEqual(node.end_lineno - node.lineno + 1, 40, node.name)

    def test_only_the_listed_sorts_of_code(self):
        for name, text, tree in self.each():
            self.assertEqual({node.__class__.__name__ for node in ast.walk(tree)} - NODES, set(), name)
            constants = [node.value for node in ast.walk(tree) if isinstance(node, ast.Constant)]
            self.assertEqual([c for c in constants if not isinstance(c, (int, str, type(None)))], [], name)

    def test_imports_are_the_packages_own(self):
        for name, text, tree in self.each():
            for node in ast.walk(tree):
                if isinstance(node, ast.ImportFrom):
                    self.assertEqual(node.level, 0, name)
                    self.assertTrue(node.module.startswith("triesroom."), name)
                    self.assertNotIn("*", [alias.name for alias in node.names], name)

    def test_names(self):
        for name, text, tree in self.each():
            for bound in bound_names(tree):
                if bound != "__init__":
                    self.assertRegex(bound, r"\A[A-Za-z][A-Za-z0-9_]*\Z", name)
                self.assertNotIn(bound, PYTHONS_OWN, name)
            read = {node.id for node in ast.walk(tree) if isinstance(node, ast.Name)}
            self.assertEqual((read & PYTHONS_OWN) - OWN_NAMES, set(), name)

    def test_methods_and_values(self):
        methods, values, called = set(), set(), set()
        for name, text, tree in self.each():
            for node in ast.walk(tree):
                if isinstance(node, ast.ClassDef):
                    methods |= {part.name for part in node.body if isinstance(part, ast.FunctionDef)}
                elif isinstance(node, ast.Attribute) and isinstance(node.ctx, ast.Store):
                    values.add(node.attr)
                elif isinstance(node, ast.Call) and isinstance(node.func, ast.Attribute):
                    called.add(node.func.attr)
        self.assertEqual(methods & values, set())
        self.assertEqual(called - methods - METHODS, set())


if __name__ == "__main__":
    unittest.main()
