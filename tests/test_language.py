"""That the package's files keep to the part of Python it is written in, as far as their form shows it."""

import ast
import pathlib
import re
import unittest

FOLDER = pathlib.Path(__file__).resolve().parent.parent / "answertrees"

NODES = set("""
Module Expr Import ImportFrom alias FunctionDef arguments arg Return ClassDef Assign AugAssign AnnAssign Delete
For While If Break Continue Pass Raise Try ExceptHandler Assert Lambda IfExp BoolOp And Or BinOp UnaryOp Not USub
UAdd Invert Add Sub Mult FloorDiv Mod Pow LShift RShift BitOr BitXor BitAnd Compare Eq NotEq Lt LtE Gt GtE Is IsNot
In NotIn Call keyword Constant Attribute Subscript Slice Starred Name Load Store Del List Tuple Dict Set
ListComp DictComp SetComp comprehension JoinedStr FormattedValue
""".split())

OWN_NAMES = set("""
len range enumerate zip min max sum abs sorted reversed int str bool bytes list tuple dict set isinstance ord repr
any all divmod Exception ValueError TypeError KeyError IndexError LookupError ZeroDivisionError ArithmeticError
OverflowError RuntimeError NotImplementedError AttributeError StopIteration
""".split())

METHODS = set("""
append clear copy count endswith extend find get index insert isalnum isalpha isdigit islower isspace isupper items
join keys ljust lower lstrip partition pop remove replace reverse rfind rjust rpartition rsplit rstrip setdefault
split splitlines startswith strip update upper values zfill bit_length add discard sort removeprefix removesuffix
""".split())

SPECIAL = {"__init__", "__eq__", "__repr__", "__str__", "__len__"}

WORDS = re.compile(
    r"\b(type|typing|typing_extensions|enum|Enum|IntEnum|StrEnum|Flag|IntFlag|Generic|Protocol|ABC|ABCMeta|namedtuple"
    r"|NamedTuple|TypedDict|TYPE_CHECKING|abstractmethod)\b|dataclass|overload|contextmanager"
)


def sources():
    return {path.stem: path.read_text() for path in sorted(FOLDER.glob("*.py"))}


def trees():
    return {name: ast.parse(text) for name, text in sources().items()}


def walked(kind):
    return [(name, node) for name, tree in trees().items() for node in ast.walk(tree) if isinstance(node, kind)]


def bound_names(tree):
    found = set()
    for node in ast.walk(tree):
        if isinstance(node, ast.Name) and not isinstance(node.ctx, ast.Load):
            found.add(node.id)
        if isinstance(node, (ast.FunctionDef, ast.ClassDef)):
            found.add(node.name)
        if isinstance(node, ast.arg):
            found.add(node.arg)
        if isinstance(node, ast.alias):
            found.add(node.asname or node.name)
        if isinstance(node, ast.ExceptHandler) and node.name:
            found.add(node.name)
    return found


class Language(unittest.TestCase):
    def test_files(self):
        others = [path.name for path in FOLDER.iterdir() if path.suffix != ".py" and path.name != "__pycache__"]
        self.assertEqual(others, [])
        self.assertIn("__init__", sources())

    def test_size_and_signs(self):
        for name, text in sources().items():
            rows = text.splitlines()
            self.assertLessEqual(len(rows), 400, name)
            self.assertLessEqual(max(len(row) for row in rows), 120, name)
            self.assertTrue(all(sign == "\n" or " " <= sign <= "~" for sign in text), name)
            self.assertIsNone(WORDS.search(text), name)
        for name, node in walked(ast.FunctionDef):
            self.assertLessEqual(node.end_lineno - node.lineno + 1, 40, (name, node.name))

    def test_forms(self):
        for name, tree in trees().items():
            for node in ast.walk(tree):
                self.assertIn(node.__class__.__name__, NODES, (name, getattr(node, "lineno", 0)))
        for name, node in walked(ast.Constant):
            self.assertIsInstance(node.value, (int, str, bytes, type(None)), name)
            if isinstance(node.value, str):
                self.assertNotIn("%", node.value, name)
        for name, node in walked((ast.For, ast.While)):
            self.assertEqual(node.orelse, [], (name, node.lineno))
        for name, node in walked(ast.Compare):
            if isinstance(node.ops[0], (ast.Is, ast.IsNot)):
                self.assertIsInstance(node.comparators[0], ast.Constant, (name, node.lineno))

    def test_defs_and_classes(self):
        for name, node in walked(ast.FunctionDef):
            arguments = node.args
            self.assertFalse(node.decorator_list or arguments.vararg or arguments.kwarg or arguments.posonlyargs, name)
        for name, node in walked(ast.ClassDef):
            self.assertFalse(node.decorator_list or node.keywords or len(node.bases) > 1, (name, node.name))
            for part in node.body:
                docs = isinstance(part, ast.Expr) and isinstance(part.value, ast.Constant)
                self.assertTrue(docs or isinstance(part, (ast.FunctionDef, ast.Pass)), (name, node.name))

    def test_names(self):
        for file, tree in trees().items():
            bound = bound_names(tree)
            for name in bound:
                self.assertRegex(name, r"\A[A-Za-z][A-Za-z0-9_]*\Z|\A__(init|eq|repr|str|len)__\Z", file)
                self.assertNotIn(name, dir(__builtins__) if not isinstance(__builtins__, dict) else __builtins__, file)
            used = {node.id for node in ast.walk(tree) if isinstance(node, ast.Name)}
            self.assertEqual(used - bound - OWN_NAMES, set(), file)

    def test_each_name_once_at_the_top(self):
        for file, tree in trees().items():
            top = []
            for node in tree.body:
                if isinstance(node, (ast.FunctionDef, ast.ClassDef)):
                    top.append(node.name)
                if isinstance(node, ast.Assign):
                    top += [target.id for target in node.targets]
                if isinstance(node, ast.ImportFrom):
                    top += [alias.asname or alias.name for alias in node.names]
            self.assertEqual(len(top), len(set(top)), file)
            taken = {name.name for node in tree.body if isinstance(node, ast.ImportFrom) for name in node.names}
            taken |= {node.name for node in tree.body if isinstance(node, ast.ClassDef)}
            inner = {node.id for node in ast.walk(tree) if isinstance(node, ast.Name) and isinstance(node.ctx, ast.Store)}
            inner |= {node.arg for node in ast.walk(tree) if isinstance(node, ast.arg)}
            self.assertEqual(taken & inner, set(), file)

    def test_imports(self):
        drawn = {name: [] for name in sources()}
        self.assertEqual(walked(ast.Import), [])
        for name, node in walked(ast.ImportFrom):
            self.assertTrue(node.level == 0 and node.module.startswith("answertrees."), (name, node.module))
            other = node.module.partition(".")[2]
            defined = {part.name for part in trees()[other].body if isinstance(part, (ast.FunctionDef, ast.ClassDef))}
            for part in trees()[other].body:
                if isinstance(part, ast.Assign):
                    defined |= {target.id for target in part.targets}
            self.assertLessEqual({alias.name for alias in node.names}, defined, (name, other))
            drawn[name].append(other)
        while drawn:
            free = [name for name in drawn if not [other for other in drawn[name] if other in drawn]]
            self.assertTrue(free, f"files that draw from one another: {sorted(drawn)}")
            drawn = {name: drawn[name] for name in drawn if name not in free}

    def test_methods_and_values(self):
        methods = {part.name for _, node in walked(ast.ClassDef) for part in node.body if isinstance(part, ast.FunctionDef)}
        values = {node.attr for _, node in walked(ast.Attribute) if isinstance(node.ctx, ast.Store)}
        self.assertEqual(methods & values, set())
        for name, node in walked(ast.Attribute):
            self.assertIn(node.attr, METHODS | methods | values | SPECIAL, (name, node.lineno))


if __name__ == "__main__":
    unittest.main()
