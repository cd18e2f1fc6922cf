"""The package keeps to the written form: what of its rules a short walk over the files can see."""

import ast
import builtins
import re
import unittest
from pathlib import Path

PACKAGE = Path(__file__).resolve().parent.parent / "dicesums"

OWN_NAMES = set("""len range enumerate zip min max sum abs sorted reversed int str bool list tuple dict set frozenset
    isinstance ord repr any all divmod Exception ValueError TypeError KeyError IndexError LookupError
    ZeroDivisionError ArithmeticError OverflowError RuntimeError NotImplementedError StopIteration""".split())

NODES = set("""Module ImportFrom alias FunctionDef arguments arg ClassDef Assign AugAssign If While For Return Break
    Continue Pass Raise Try ExceptHandler Expr Call Name Attribute Subscript Slice Constant List Tuple Dict Set
    ListComp comprehension BinOp UnaryOp BoolOp Compare IfExp Lambda JoinedStr FormattedValue keyword Load Store
    Add Sub Mult FloorDiv Mod Pow LShift RShift BitOr BitAnd BitXor Invert And Or Not USub UAdd
    Eq NotEq Lt LtE Gt GtE Is IsNot In NotIn""".split())

METHODS = set("""append clear copy count endswith extend find get index insert isalnum isalpha isdigit islower isspace
    isupper items join keys ljust lower lstrip partition pop remove replace reverse rfind rjust rpartition rsplit
    rstrip setdefault split splitlines startswith strip update upper values zfill bit_length""".split())

WORDS = re.compile(r"\b(type|typing|typing_extensions|enum|Enum|IntEnum|StrEnum|Flag|IntFlag|Generic|Protocol|ABC"
                   r"|ABCMeta|namedtuple|NamedTuple|TypedDict|TYPE_CHECKING|abstractmethod)\b"
                   r"|dataclass|overload|contextmanager")


def sources():
    return [(path.name, path.read_text(encoding="utf-8")) for path in sorted(PACKAGE.glob("*.py"))]


def nodes(kind):
    return [(name, node) for name, text in sources() for node in ast.walk(ast.parse(text)) if isinstance(node, kind)]


def top_names(text):
    found = set()
    for node in ast.parse(text).body:
        if isinstance(node, (ast.FunctionDef, ast.ClassDef)):
            found.add(node.name)
        elif isinstance(node, ast.Assign):
            found.add(node.targets[0].id)
    return found


class FormTest(unittest.TestCase):
    def test_nothing_but_plain_files(self):
        for path in PACKAGE.iterdir():
            if path.name != "__pycache__":
                self.assertRegex(path.name, r"^([a-z][a-z0-9_]*|__init__)\.py$")

    def test_signs_and_sizes(self):
        for name, text in sources():
            rows = text.split("\n")
            self.assertLessEqual(len(rows), 400, name)
            for number, row in enumerate(rows, start=1):
                self.assertRegex(row, r"^[ -~]{0,120}$", (name, number))
                self.assertIsNone(WORDS.search(row), (name, number))

    def test_functions_are_short_and_plain(self):
        for name, node in nodes(ast.FunctionDef):
            self.assertLessEqual(node.end_lineno - node.lineno + 1, 40, (name, node.name))
            self.assertEqual(node.decorator_list, [])
            self.assertIsNone(node.args.vararg or node.args.kwarg)
            self.assertEqual(node.args.kwonlyargs + node.args.posonlyargs, [])

    def test_statements_and_expressions(self):
        for name, node in nodes(ast.AST):
            self.assertIn(node.__class__.__name__, NODES, (name, getattr(node, "lineno", 0)))
        for name, node in nodes(ast.Assign):
            self.assertEqual(len(node.targets), 1, (name, node.lineno))
        for name, node in nodes(ast.ListComp):
            self.assertEqual(len(node.generators), 1, (name, node.lineno))
            self.assertLessEqual(len(node.generators[0].ifs), 1, (name, node.lineno))

    def test_imports(self):
        modules = ["dicesums." + name[:-3] for name, text in sources()]
        for name, node in nodes(ast.ImportFrom):
            self.assertEqual(node.level, 0)
            self.assertIn(node.module, modules, name)

    def test_names_are_drawn_from_the_file_that_defines_them(self):
        defined = {"dicesums." + name[:-3]: top_names(text) for name, text in sources()}
        for name, node in nodes(ast.ImportFrom):
            for drawn in node.names:
                self.assertIn(drawn.name, defined[node.module], (name, node.lineno))

    def test_no_two_files_draw_from_one_another(self):
        draws = {"dicesums." + name[:-3]: set() for name, text in sources()}
        for name, node in nodes(ast.ImportFrom):
            draws["dicesums." + name[:-3]].add(node.module)
        while draws:
            free = [module for module in draws if not draws[module] & set(draws)]
            self.assertNotEqual(free, [], draws)
            draws = {module: draws[module] for module in draws if module not in free}

    def test_names(self):
        for name, node in nodes(ast.Name):
            self.assertRegex(node.id, r"^[A-Za-z][A-Za-z0-9_]*$", name)
            if hasattr(builtins, node.id):
                self.assertIn(node.id, OWN_NAMES, (name, node.lineno))
                self.assertIsInstance(node.ctx, ast.Load, (name, node.lineno))
        for name, node in nodes(ast.arg):
            self.assertFalse(hasattr(builtins, node.arg), (name, node.lineno))

    def test_no_local_is_called_like_an_import_or_a_class(self):
        for name, text in sources():
            tree = ast.parse(text)
            drawn = {one.name for node in ast.walk(tree) if isinstance(node, ast.ImportFrom) for one in node.names}
            drawn |= {node.name for node in tree.body if isinstance(node, ast.ClassDef)}
            stored = {node.id for node in ast.walk(tree)
                      if isinstance(node, ast.Name) and isinstance(node.ctx, ast.Store)}
            given = {node.arg for node in ast.walk(tree) if isinstance(node, ast.arg)}
            self.assertEqual(drawn & (stored | given), set(), name)

    def test_methods(self):
        own = {node.name for name, node in nodes(ast.FunctionDef)}
        for name, node in nodes(ast.Call):
            if isinstance(node.func, ast.Attribute):
                self.assertIn(node.func.attr, METHODS | own, (name, node.lineno))

    def test_values_of_objects_are_called_like_no_method(self):
        own = {method.name for name, node in nodes(ast.ClassDef) for method in node.body
               if isinstance(method, ast.FunctionDef)}
        pythons = {name for kind in (str, int, list, tuple, dict, set, frozenset, bytes) for name in dir(kind)}
        for name, node in nodes(ast.Attribute):
            if isinstance(node.ctx, ast.Store):
                self.assertNotIn(node.attr, own | pythons, (name, node.lineno))
        self.assertEqual({name for name in own if not name.startswith("__")} & pythons, set())

    def test_powers_have_a_written_exponent(self):
        for name, node in nodes(ast.BinOp):
            if isinstance(node.op, ast.Pow):
                self.assertIsInstance(node.right, ast.Constant, (name, node.lineno))


if __name__ == "__main__":
    unittest.main()
