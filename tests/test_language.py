"""The package keeps to the rules of LANGUAGE.md, as far as a look at the written code can tell."""

import ast
import builtins
import functools
import pathlib
import re
import unittest

PACKAGE = pathlib.Path(__file__).resolve().parent.parent / "mumtrial"

OWN_NAMES = set("""
    len range enumerate zip min max sum abs sorted reversed int str bool list tuple dict set frozenset isinstance ord
    repr any all divmod Exception ValueError TypeError KeyError IndexError LookupError ZeroDivisionError
    ArithmeticError OverflowError RuntimeError NotImplementedError AttributeError StopIteration
""".split())
OWN_METHODS = set("""
    append clear copy count endswith extend find get index insert isalnum isalpha isdigit islower isspace isupper items
    join keys ljust lower lstrip partition pop remove replace reverse rfind rjust rpartition rsplit rstrip setdefault
    split splitlines startswith strip update upper values zfill bit_length
""".split())
DUNDERS = {"__init__", "__eq__", "__repr__", "__str__", "__len__"}
NO_WORDS = re.compile(
    r"\b(type|typing|typing_extensions|enum|Enum|IntEnum|StrEnum|Flag|IntFlag|Generic|Protocol|ABC|ABCMeta|namedtuple"
    r"|NamedTuple|TypedDict|TYPE_CHECKING|abstractmethod)\b|dataclass|overload|contextmanager")
NO_NAMES = set("register mro elements open input version_info with_traceback add_note format format_map".split())
NO_NODES = (
    ast.With, ast.Match, ast.Delete, ast.Global, ast.Nonlocal, ast.Assert, ast.Yield, ast.YieldFrom, ast.Await,
    ast.AsyncFunctionDef, ast.AsyncFor, ast.AsyncWith, ast.SetComp, ast.DictComp, ast.GeneratorExp, ast.NamedExpr,
    ast.Starred, ast.Div, ast.Import, ast.AnnAssign, ast.Set, ast.MatMult,
)


def files():
    return sorted(PACKAGE.glob("*.py"))


def trees():
    return [(path.name, ast.parse(path.read_text("ascii"))) for path in files()]


@functools.cache
def nodes(kinds):
    """(file, node) of each node of these kinds; a node is the same one whatever kinds are asked for."""
    if kinds is not ast.AST:
        return [(name, node) for name, node in nodes(ast.AST) if isinstance(node, kinds)]
    return [(name, node) for name, tree in trees() for node in ast.walk(tree)]


def bound_names():
    """(file, row, name) for every name that the package gives."""
    told = []
    for name, node in nodes((ast.FunctionDef, ast.ClassDef, ast.arg, ast.Name, ast.Attribute, ast.ExceptHandler)):
        if isinstance(node, (ast.FunctionDef, ast.ClassDef, ast.ExceptHandler)) and node.name is not None:
            told.append((name, node.lineno, node.name))
        elif isinstance(node, ast.arg):
            told.append((name, node.lineno, node.arg))
        elif isinstance(node, ast.Name) and isinstance(node.ctx, ast.Store):
            told.append((name, node.lineno, node.id))
        elif isinstance(node, ast.Attribute) and isinstance(node.ctx, ast.Store):
            told.append((name, node.lineno, node.attr))
    return told


class Files(unittest.TestCase):
    def test_nothing_but_plain_files_in_the_folder(self):
        there = [path.name for path in PACKAGE.iterdir() if path.name != "__pycache__"]
        self.assertIn("__init__.py", there)
        for name in there:
            self.assertRegex(name, r"\A[a-z0-9_]+\.py\Z")

    def test_signs_and_sizes(self):
        for path in files():
            text = path.read_bytes().decode("ascii")
            self.assertRegex(text, r"\A[ -~\n]*\Z", path.name)
            rows = text.split("\n")
            self.assertLessEqual(len(rows) - 1, 400, path.name)
            self.assertLessEqual(max(len(row) for row in rows), 120, path.name)
            self.assertIsNone(NO_WORDS.search(text), path.name)

    def test_no_long_function(self):
        for name, node in nodes(ast.FunctionDef):
            self.assertLessEqual(node.end_lineno - node.lineno + 1, 40, (name, node.name))


class Rows(unittest.TestCase):
    def test_the_top_of_a_module(self):
        allowed = (ast.ImportFrom, ast.FunctionDef, ast.ClassDef, ast.Assign)
        for name, tree in trees():
            for number, node in enumerate(tree.body):
                docstring = number == 0 and isinstance(node, ast.Expr) and isinstance(node.value, ast.Constant)
                self.assertTrue(docstring or isinstance(node, allowed), (name, node.lineno))

    def test_imports_are_the_packages_own(self):
        for name, node in nodes(ast.ImportFrom):
            self.assertEqual(node.level, 0, name)
            self.assertRegex(node.module, r"\Amumtrial\.[a-z0-9_]+\Z", name)
            source = ast.parse((PACKAGE / (node.module.split(".")[1] + ".py")).read_text("ascii"))
            made = [row.name for row in source.body if isinstance(row, (ast.FunctionDef, ast.ClassDef))]
            made += [row.targets[0].id for row in source.body if isinstance(row, ast.Assign)]
            for alias in node.names:
                self.assertIn(alias.name, made, name)

    def test_no_two_files_draw_from_one_another(self):
        drawn = {path.stem: set() for path in files()}
        for name, node in nodes(ast.ImportFrom):
            drawn[name.split(".")[0]].add(node.module.split(".")[1])
        while drawn:
            free = [name for name in drawn if not drawn[name] & set(drawn)]
            self.assertNotEqual(free, [], drawn)
            for name in free:
                drawn.pop(name)

    def test_no_row_outside_the_part(self):
        for name, node in nodes(NO_NODES):
            self.fail((name, getattr(node, "lineno", None), node))

    def test_statements(self):
        for name, node in nodes((ast.Assign, ast.For, ast.While, ast.Try, ast.ListComp, ast.comprehension, ast.Expr)):
            if isinstance(node, ast.Assign):
                self.assertEqual(len(node.targets), 1, name)
            elif isinstance(node, (ast.For, ast.While)):
                self.assertEqual(node.orelse, [], name)
            elif isinstance(node, ast.Try):
                self.assertEqual(node.finalbody, [], name)
            elif isinstance(node, ast.ListComp):
                self.assertEqual(len(node.generators), 1, name)
            elif isinstance(node, ast.comprehension):
                self.assertLessEqual(len(node.ifs), 1, name)
            elif node.lineno > 1:
                self.assertIsInstance(node.value, ast.Call, (name, node.lineno))

    def test_values(self):
        for name, node in nodes(ast.Constant):
            self.assertIn(type(node.value), (int, str, bool, type(None)), (name, node.lineno))
            if isinstance(node.value, str):
                self.assertNotIn("%", node.value, (name, node.lineno))

    def test_is_stands_beside_none_true_and_false(self):
        for name, node in nodes(ast.Compare):
            for sort, right in zip(node.ops, node.comparators):
                if isinstance(sort, (ast.Is, ast.IsNot)):
                    self.assertIsInstance(right, ast.Constant, (name, node.lineno))
                    self.assertIn(right.value, (None, True, False), (name, node.lineno))


class Walked(unittest.TestCase):
    def test_walked_on_the_spot(self):
        around = {}
        for name, node in nodes(ast.AST):
            for field in ast.iter_child_nodes(node):
                around[field] = node
        for name, node in nodes(ast.Call):
            own = isinstance(node.func, ast.Name) and node.func.id in ("zip", "enumerate", "reversed", "range")
            method = isinstance(node.func, ast.Attribute) and node.func.attr in ("items", "keys", "values")
            if own or method:
                self.assertTrue(is_walked(node, around[node]), (name, node.lineno))

    def test_no_exponent_that_is_not_written(self):
        for name, node in nodes(ast.BinOp):
            if isinstance(node.op, ast.Pow):
                self.assertIsInstance(node.right, ast.Constant, (name, node.lineno))
            self.assertNotIsInstance(node.op, (ast.LShift, ast.RShift), (name, node.lineno))

    def test_no_set_is_kept(self):
        for name, node in nodes(ast.Name):
            self.assertNotIn(node.id, ("set", "frozenset"), (name, node.lineno))


def is_walked(node, parent):
    if isinstance(parent, (ast.For, ast.comprehension)):
        return parent.iter == node
    if not isinstance(parent, ast.Call) or not isinstance(parent.func, ast.Name) or parent.args[:1] != [node]:
        return False
    if parent.func.id in ("min", "max"):
        return len(parent.args) == 1
    return parent.func.id in ("list", "tuple", "dict", "sorted", "sum", "any", "all", "enumerate", "zip")


class Names(unittest.TestCase):
    def test_plain_names(self):
        for name, row, bound in bound_names():
            self.assertTrue(bound in DUNDERS or re.match(r"\A[A-Za-z][A-Za-z0-9_]*\Z", bound), (name, row, bound))
            self.assertNotIn(bound, NO_NAMES, (name, row))

    def test_no_name_of_pythons_own_is_given_anew(self):
        for name, node in nodes((ast.arg, ast.Name)):
            bound = node.arg if isinstance(node, ast.arg) else node.id
            if isinstance(node, ast.arg) or isinstance(node.ctx, ast.Store):
                self.assertFalse(hasattr(builtins, bound), (name, node.lineno, bound))

    def test_no_parameter_or_local_is_called_like_a_class_or_an_import(self):
        for path in files():
            taken = [alias.name for name, node in nodes(ast.ImportFrom) if name == path.name for alias in node.names]
            taken += [node.name for name, node in nodes(ast.ClassDef) if name == path.name]
            for name, node in nodes((ast.arg, ast.Name)):
                if name == path.name and (isinstance(node, ast.arg) or isinstance(node.ctx, ast.Store)):
                    self.assertNotIn(node.arg if isinstance(node, ast.arg) else node.id, taken, (name, node.lineno))

    def test_pythons_own_names_are_those_of_the_part(self):
        for name, node in nodes(ast.Name):
            if hasattr(builtins, node.id):
                self.assertIn(node.id, OWN_NAMES, (name, node.lineno))

    def test_plain_functions(self):
        for name, node in nodes((ast.FunctionDef, ast.Lambda)):
            shape = node.args
            self.assertEqual((shape.posonlyargs, shape.vararg, shape.kwonlyargs, shape.kwarg), ([], None, [], None), name)
        for name, node in nodes((ast.FunctionDef, ast.ClassDef)):
            self.assertEqual(node.decorator_list, [], (name, node.name))

    def test_methods_and_values_are_kept_apart(self):
        methods = [row.name for name, node in nodes(ast.ClassDef) for row in node.body if isinstance(row, ast.FunctionDef)]
        given = [node.attr for name, node in nodes(ast.Attribute) if isinstance(node.ctx, ast.Store)]
        self.assertEqual(set(methods) & set(given), set())
        for name, node in nodes(ast.Call):
            if isinstance(node.func, ast.Attribute):
                self.assertIn(node.func.attr, OWN_METHODS | set(methods), (name, node.lineno))


if __name__ == "__main__":
    unittest.main()
