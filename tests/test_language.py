"""What of the language's rules can be seen in the package's files without running them."""

import ast
import builtins
import pathlib
import re
import unittest

PACKAGE = pathlib.Path(__file__).resolve().parent.parent / "landreserves"

OWN_NAMES = set("""len range enumerate zip min max sum abs sorted reversed int str bool list tuple dict set frozenset
isinstance ord repr any all divmod Exception ValueError TypeError KeyError IndexError LookupError ZeroDivisionError
ArithmeticError OverflowError RuntimeError NotImplementedError AttributeError StopIteration""".split())

OWN_METHODS = set("""append clear copy count endswith extend find get index insert isalnum isalpha isdigit islower
isspace isupper items join keys ljust lower lstrip partition pop remove replace reverse rfind rjust rpartition rsplit
rstrip setdefault split splitlines startswith strip update upper values zfill bit_length""".split())

WORDS_OUT = set("""type typing typing_extensions enum Enum IntEnum StrEnum Flag IntFlag Generic Protocol ABC ABCMeta
namedtuple NamedTuple TypedDict TYPE_CHECKING abstractmethod""".split())

NODES = tuple(getattr(ast, name) for name in """Module Expr FunctionDef ClassDef Return Assign AugAssign For While If
Raise Try ExceptHandler ImportFrom alias Pass Break Continue BoolOp BinOp UnaryOp Lambda IfExp Dict Set ListComp
comprehension Compare Call JoinedStr FormattedValue Constant Attribute Subscript Slice Name List Tuple arguments arg
keyword expr_context boolop operator unaryop cmpop""".split())


def files():
    return sorted(path for path in PACKAGE.rglob("*") if "__pycache__" not in path.parts)


def trees():
    return [(path.name, ast.parse(path.read_text(encoding="ascii"))) for path in files()]


def nodes():
    return [(f"{name}:{getattr(node, 'lineno', 0)}", node) for name, tree in trees() for node in ast.walk(tree)]


def bound_names():
    found = set()
    for where, node in nodes():
        if isinstance(node, (ast.FunctionDef, ast.ClassDef)):
            found.add(node.name)
        elif isinstance(node, ast.arg):
            found.add(node.arg)
        elif isinstance(node, ast.Name) and isinstance(node.ctx, ast.Store):
            found.add(node.id)
        elif isinstance(node, ast.alias):
            found.add(node.name)
    return found


class FilesTest(unittest.TestCase):
    def test_the_files_of_the_interface_are_there(self):
        names = [path.relative_to(PACKAGE).as_posix() for path in files()]
        self.assertIn("__init__.py", names)
        self.assertIn("land.py", names)

    def test_names_of_files(self):
        for path in files():
            self.assertRegex(path.name, r"^[a-z0-9_]+\.py$")

    def test_signs_and_sizes(self):
        for path in files():
            rows = path.read_text(encoding="ascii").split("\n")
            self.assertLessEqual(len(rows), 401, path.name)
            for place, row in enumerate(rows, start=1):
                self.assertRegex(row, r"^[ -~]{0,120}\Z", f"{path.name}:{place}")

    def test_words_that_stand_nowhere(self):
        for path in files():
            text = path.read_text(encoding="ascii")
            self.assertEqual(WORDS_OUT & set(re.findall(r"\w+", text)), set(), path.name)
            self.assertNotRegex(text, "dataclass|overload|contextmanager")


class TreesTest(unittest.TestCase):
    def test_only_told_statements_and_values(self):
        for where, node in nodes():
            self.assertIsInstance(node, NODES, where)
            if isinstance(node, (ast.For, ast.While)):
                self.assertEqual(node.orelse, [], where)
            if isinstance(node, ast.Constant):
                self.assertIn(type(node.value), (int, str, bool, type(None)), where)
            if isinstance(node, ast.BinOp):
                self.assertNotIsInstance(node.op, (ast.Div, ast.Pow, ast.MatMult), where)
            if isinstance(node, ast.ListComp):
                self.assertEqual(len(node.generators), 1, where)
                self.assertLessEqual(len(node.generators[0].ifs), 1, where)
            if isinstance(node, ast.Assign):
                self.assertEqual(len(node.targets), 1, where)

    def test_functions(self):
        for where, node in nodes():
            if isinstance(node, ast.FunctionDef):
                self.assertLessEqual(node.end_lineno - node.lineno + 1, 40, where)
                self.assertEqual(node.decorator_list, [], where)
                self.assertIsNone(node.args.vararg, where)
                self.assertIsNone(node.args.kwarg, where)
                self.assertEqual(node.args.kwonlyargs, [], where)

    def test_imports_are_the_package_s_own(self):
        for where, node in nodes():
            if isinstance(node, ast.ImportFrom):
                self.assertEqual((node.level, node.module.split(".")[0]), (0, "landreserves"), where)

    def test_names(self):
        bound = bound_names()
        self.assertEqual(bound & set(dir(builtins)), set())
        for name in bound:
            self.assertRegex(name, r"^([A-Za-z][A-Za-z0-9_]*|__init__)$")
        for where, node in nodes():
            if isinstance(node, ast.Name) and node.id not in bound:
                self.assertIn(node.id, OWN_NAMES, where)

    def test_methods(self):
        own = {node.name for where, node in nodes() if isinstance(node, ast.FunctionDef)}
        for where, node in nodes():
            if isinstance(node, ast.Call) and isinstance(node.func, ast.Attribute):
                self.assertIn(node.func.attr, own | OWN_METHODS, where)


if __name__ == "__main__":
    unittest.main()
