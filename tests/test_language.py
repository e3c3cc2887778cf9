"""That the package keeps to the part of Python that it is to be written in, as far as a test can see it."""

import ast
import builtins
import pathlib
import re
import unittest

PACKAGE = pathlib.Path(__file__).resolve().parent.parent / "lendpartners"

STATEMENTS = (
    ast.FunctionDef, ast.ClassDef, ast.ImportFrom, ast.Assign, ast.AugAssign, ast.If, ast.While, ast.For, ast.Return,
    ast.Break, ast.Continue, ast.Pass, ast.Raise, ast.Try, ast.Expr,
)
EXPRESSIONS = (
    ast.Constant, ast.Name, ast.Attribute, ast.Subscript, ast.Slice, ast.Call, ast.List, ast.Tuple, ast.Dict,
    ast.BinOp, ast.UnaryOp, ast.BoolOp, ast.Compare, ast.IfExp, ast.ListComp, ast.Lambda, ast.JoinedStr,
    ast.FormattedValue,
)
OWN_NAMES = set(
    "len range enumerate zip min max sum abs sorted reversed int str bool list tuple dict set frozenset isinstance ord "
    "repr any all divmod Exception ValueError TypeError KeyError IndexError LookupError ZeroDivisionError "
    "ArithmeticError OverflowError RuntimeError NotImplementedError AttributeError StopIteration".split())
METHODS = set(
    "append clear copy count endswith extend find get index insert isalnum isalpha isdigit islower isspace isupper "
    "items join keys ljust lower lstrip partition pop remove replace reverse rfind rjust rpartition rsplit rstrip "
    "setdefault split splitlines startswith strip update upper values zfill bit_length".split())
NOT_AS_VALUES = set(
    "items keys values pop update append clear extend insert remove reverse setdefault sort args encode format".split())
WALKED = ("zip", "enumerate", "reversed", "range", "items", "keys", "values")
WORDS = re.compile(
    r"\b(type|typing|typing_extensions|enum|Enum|IntEnum|StrEnum|Flag|IntFlag|Generic|Protocol|ABC|ABCMeta|namedtuple|"
    r"NamedTuple|TypedDict|TYPE_CHECKING|abstractmethod)\b|dataclass|overload|contextmanager")


def files():
    return sorted(PACKAGE.glob("*.py"))


def trees():
    return [(path, ast.parse(path.read_text())) for path in files()]


def nodes(kind):
    return [(path, node) for path, tree in trees() for node in ast.walk(tree) if isinstance(node, kind)]


class Language(unittest.TestCase):
    def test_files(self):
        lying = [path.name for path in PACKAGE.iterdir() if path.name != "__pycache__"]
        self.assertIn("__init__.py", lying)
        for name in lying:
            self.assertRegex(name, r"^([a-z][a-z0-9_]*|__init__)\.py$")

    def test_signs_and_sizes(self):
        for path in files():
            rows = path.read_bytes().decode("utf-8").split("\n")
            self.assertLessEqual(len(rows), 401, path)
            for row in rows:
                self.assertRegex(row, r"^[ -~]{0,120}$", path)
                self.assertIsNone(WORDS.search(row), (path, row))

    def test_functions(self):
        for path, node in nodes(ast.FunctionDef):
            where = (path.name, node.name)
            self.assertLessEqual(node.end_lineno - node.lineno + 1, 40, where)
            plain = not (node.args.vararg or node.args.kwarg or node.args.kwonlyargs or node.args.posonlyargs)
            self.assertTrue(plain and not node.decorator_list, where)

    def test_statements_and_expressions(self):
        for path, node in nodes((ast.stmt, ast.expr)):
            allowed = STATEMENTS if isinstance(node, ast.stmt) else EXPRESSIONS
            self.assertIsInstance(node, allowed, (path.name, node.lineno))
            if isinstance(node, ast.Assign):
                self.assertEqual(len(node.targets), 1, (path.name, node.lineno))
                self.assertNotIsInstance(node.targets[0], (ast.Tuple, ast.List), (path.name, node.lineno))
            if isinstance(node, (ast.While, ast.For)):
                self.assertEqual(node.orelse, [], (path.name, node.lineno))
            if isinstance(node, ast.Constant):
                self.assertIsInstance(node.value, (int, str, type(None)), (path.name, node.lineno))
            if isinstance(node, ast.BinOp):
                self.assertNotIsInstance(node.op, (ast.Div, ast.Pow, ast.MatMult), (path.name, node.lineno))

    def test_names(self):
        for path, node in nodes((ast.Name, ast.arg)):
            name = node.id if isinstance(node, ast.Name) else node.arg
            self.assertRegex(name, r"^[A-Za-z][A-Za-z0-9_]*$", (path.name, node.lineno))
            if name in vars(builtins):
                self.assertIn(name, OWN_NAMES, (path.name, node.lineno))
                read = isinstance(node, ast.Name) and isinstance(node.ctx, ast.Load)
                self.assertTrue(read, (path.name, node.lineno))

    def test_imports(self):
        drawn = {}
        for path, node in nodes(ast.ImportFrom):
            self.assertRegex(node.module, r"^lendpartners\.[a-z_]+$", path.name)
            source = PACKAGE / (node.module.split(".")[1] + ".py")
            defined = set()
            for item in ast.parse(source.read_text()).body:
                if isinstance(item, (ast.FunctionDef, ast.ClassDef)):
                    defined.add(item.name)
                if isinstance(item, ast.Assign):
                    defined.add(item.targets[0].id)
            for alias in node.names:
                self.assertIn(alias.name, defined, (path.name, node.lineno))
            drawn.setdefault(path.stem, set()).add(source.stem)
        for stem in drawn:
            reached, ahead = set(), [stem]
            while ahead:
                for other in drawn.get(ahead.pop(), set()) - reached:
                    reached.add(other)
                    ahead.append(other)
            self.assertNotIn(stem, reached)

    def test_the_top_of_a_module(self):
        for path, tree in trees():
            bound = []
            for node in tree.body:
                self.assertIsInstance(node, (ast.Expr, ast.ImportFrom, ast.FunctionDef, ast.ClassDef, ast.Assign))
                if isinstance(node, (ast.FunctionDef, ast.ClassDef)):
                    bound.append(node.name)
                if isinstance(node, ast.ImportFrom):
                    bound.extend(alias.name for alias in node.names)
                if isinstance(node, ast.Assign):
                    bound.append(node.targets[0].id)
            self.assertEqual(len(bound), len(set(bound)), path.name)

    def test_locals_are_not_called_like_imports_or_classes(self):
        for path, tree in trees():
            taken = {alias.name for node in tree.body if isinstance(node, ast.ImportFrom) for alias in node.names}
            taken |= {node.name for node in tree.body if isinstance(node, ast.ClassDef)}
            for node in ast.walk(tree):
                if isinstance(node, ast.arg):
                    self.assertNotIn(node.arg, taken, (path.name, node.lineno))
                if isinstance(node, ast.Name) and isinstance(node.ctx, ast.Store):
                    self.assertNotIn(node.id, taken, (path.name, node.lineno))

    def test_methods_and_values(self):
        methods = {item.name for path, node in nodes(ast.ClassDef) for item in node.body
                   if isinstance(item, ast.FunctionDef)}
        values = {node.attr for path, node in nodes(ast.Attribute) if isinstance(node.ctx, ast.Store)}
        self.assertEqual(methods & values, set())
        self.assertEqual(values & NOT_AS_VALUES, set())
        for path, node in nodes(ast.Call):
            if isinstance(node.func, ast.Attribute):
                self.assertIn(node.func.attr, METHODS | methods, (path.name, node.lineno))

    def test_what_is_walked_is_walked_on_the_spot(self):
        within = ("list", "tuple", "dict", "sorted", "sum", "any", "all", "enumerate", "zip", "min", "max")
        for path, tree in trees():
            spots = []
            for node in ast.walk(tree):
                if isinstance(node, (ast.For, ast.comprehension)):
                    spots.append(node.iter)
                if isinstance(node, ast.Call) and isinstance(node.func, ast.Name) and node.func.id in within:
                    spots.extend(node.args[:1])
            for node in ast.walk(tree):
                if isinstance(node, ast.Call) and self.name_called(node) in WALKED:
                    self.assertIn(node, spots, (path.name, node.lineno))

    def name_called(self, node):
        return node.func.id if isinstance(node.func, ast.Name) else getattr(node.func, "attr", "")

    def test_what_stands_at_the_top_is_only_read(self):
        for path, tree in trees():
            kept = {node.targets[0].id for node in tree.body
                    if isinstance(node, ast.Assign) and isinstance(node.value, (ast.List, ast.Dict))}
            read = [node.value for node in ast.walk(tree)
                    if isinstance(node, ast.Subscript) and isinstance(node.ctx, ast.Load)]
            read += [node.comparators[0] for node in ast.walk(tree) if isinstance(node, ast.Compare)]
            for node in ast.walk(tree):
                if isinstance(node, ast.Name) and isinstance(node.ctx, ast.Load) and node.id in kept:
                    self.assertIn(node, read, (path.name, node.lineno))

    def test_is_stands_beside_none_alone(self):
        for path, node in nodes(ast.Compare):
            if any(isinstance(op, (ast.Is, ast.IsNot)) for op in node.ops):
                self.assertIsInstance(node.comparators[0], ast.Constant, (path.name, node.lineno))


if __name__ == "__main__":
    unittest.main()
