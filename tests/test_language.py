"""The rules of the language that a reading of the source can see; the numbers are those of the rules."""

import ast
import builtins
import pathlib
import re
import unittest

PACKAGE = pathlib.Path(__file__).resolve().parent.parent / "holebook"
FILES = sorted(PACKAGE.rglob("*.py"))
TREES = {path: ast.parse(path.read_text(encoding="utf-8")) for path in FILES}

# L6, L7
NODES = """Module FunctionDef arguments arg Lambda ClassDef ImportFrom alias Assign AugAssign If While For Return
    Break Continue Pass Raise Try ExceptHandler Expr Constant Name Load Store Attribute Subscript Slice Call keyword
    List Tuple Dict Set ListComp comprehension JoinedStr FormattedValue IfExp BoolOp And Or UnaryOp Not USub UAdd
    Invert BinOp Add Sub Mult FloorDiv Mod Pow BitAnd BitOr BitXor LShift RShift Compare Eq NotEq Lt LtE Gt GtE Is
    IsNot In NotIn""".split()
# L8
BUILTINS = """len range enumerate zip min max sum abs sorted reversed int str bool list tuple dict set frozenset
    isinstance ord repr any all divmod Exception ValueError TypeError KeyError IndexError LookupError
    ZeroDivisionError ArithmeticError OverflowError RuntimeError NotImplementedError AttributeError
    StopIteration""".split()
DUNDERS = "__init__ __eq__ __repr__ __str__ __len__".split()
# L17
WORDS = """type typing typing_extensions enum Enum IntEnum StrEnum Flag IntFlag Generic Protocol ABC ABCMeta
    namedtuple NamedTuple TypedDict TYPE_CHECKING abstractmethod""".split()
WORD_PARTS = ("dataclass", "overload", "contextmanager")
UNUSED = """register mro elements open input version_info with_traceback add_note format format_map""".split()
# L25
METHODS = """append clear copy count endswith extend find get index insert isalnum isalpha isdigit islower isspace
    isupper items join keys ljust lower lstrip partition pop remove replace reverse rfind rjust rpartition rsplit
    rstrip setdefault split splitlines startswith strip update upper values zfill bit_length""".split()
# L23
WALKED = "zip enumerate reversed range".split()
WALKED_METHODS = "items keys values".split()
WALKERS = "list tuple dict sorted sum any all enumerate zip min max".split()


def nodes(kinds):
    for path, tree in TREES.items():
        for node in ast.walk(tree):
            if isinstance(node, kinds):
                yield path, node


def top_names(tree):
    names = []
    for row in tree.body:
        if isinstance(row, (ast.FunctionDef, ast.ClassDef)):
            names.append(row.name)
        elif isinstance(row, ast.Assign):
            names.extend(target.id for target in row.targets)
        elif isinstance(row, ast.ImportFrom):
            names.extend(alias.name for alias in row.names)
    return names


def bound_names(tree):
    for node in ast.walk(tree):
        if isinstance(node, (ast.FunctionDef, ast.ClassDef)):
            yield node.name
        elif isinstance(node, ast.arg):
            yield node.arg
        elif isinstance(node, ast.Name) and isinstance(node.ctx, ast.Store):
            yield node.id
        elif isinstance(node, ast.Attribute) and isinstance(node.ctx, ast.Store):
            yield node.attr


def drawn_from(path):
    return [row.module for row in TREES[path].body if isinstance(row, ast.ImportFrom)]


class TestFiles(unittest.TestCase):
    def test_source_files_alone(self):
        for path in PACKAGE.rglob("*"):
            if "__pycache__" not in path.parts:
                self.assertTrue(path.is_dir() or re.fullmatch(r"[a-z_][a-z0-9_]*\.py", path.name), path)
        self.assertIn(PACKAGE / "__init__.py", FILES)

    def test_signs_and_sizes(self):
        for path in FILES:
            text = path.read_text(encoding="utf-8")
            self.assertRegex(text, r"\A[ -~\n]*\Z", path)
            self.assertLessEqual(len(text.splitlines()), 400, path)
            self.assertLessEqual(max(len(row) for row in text.splitlines()), 120, path)
        for path, node in nodes(ast.FunctionDef):
            self.assertLessEqual(node.end_lineno - node.lineno + 1, 40, (path, node.name))

    def test_words(self):
        for path in FILES:
            words = re.findall(r"\w+", path.read_text(encoding="utf-8"))
            for word in words:
                self.assertNotIn(word, WORDS, path)
                self.assertFalse([part for part in WORD_PARTS if part in word], (path, word))


class TestImports(unittest.TestCase):
    def test_names_from_where_they_are_defined(self):
        for path, row in nodes(ast.ImportFrom):
            self.assertEqual((row.level, row.module.split(".")[0], row.col_offset), (0, "holebook", 0), path)
            source = TREES[PACKAGE.joinpath(*row.module.split(".")[1:]).with_suffix(".py")]
            defined = top_names(ast.Module([r for r in source.body if not isinstance(r, ast.ImportFrom)], []))
            for alias in row.names:
                self.assertIn(alias.name, defined, (path, row.lineno))
                self.assertIsNone(alias.asname)

    def test_no_rings(self):
        left = {f"holebook.{path.stem}": drawn_from(path) for path in FILES}
        while left:
            free = [name for name in left if not any(other in left for other in left[name])]
            self.assertTrue(free, left)
            left = {name: left[name] for name in left if name not in free}


class TestForms(unittest.TestCase):
    def test_statements_and_expressions(self):
        for path, node in nodes(ast.AST):
            self.assertIn(type(node).__name__, NODES, (path, getattr(node, "lineno", 0)))
        for path, node in nodes((ast.For, ast.While)):
            self.assertEqual(node.orelse, [], (path, node.lineno))
        for path, node in nodes(ast.Try):
            self.assertEqual(node.finalbody, [], (path, node.lineno))
        for path, node in nodes((ast.FunctionDef, ast.ClassDef)):
            self.assertEqual(node.decorator_list, [], (path, node.lineno))
        for path, node in nodes(ast.Assign):
            self.assertEqual(len(node.targets), 1, (path, node.lineno))
        for path, node in nodes(ast.ListComp):
            self.assertLessEqual(len(node.generators) + len(node.generators[0].ifs), 2, (path, node.lineno))
        for path, node in nodes(ast.Constant):
            self.assertIn(type(node.value), (int, str, bool, type(None)), (path, node.lineno))
        for path, node in nodes(ast.Compare):
            if any(isinstance(sign, (ast.Is, ast.IsNot)) for sign in node.ops):
                self.assertIsInstance(node.comparators[0], ast.Constant, (path, node.lineno))

    def test_the_top_of_a_file(self):
        for path, tree in TREES.items():
            self.assertIsNotNone(ast.get_docstring(tree), path)
            for row in tree.body[1:]:
                self.assertIsInstance(row, (ast.ImportFrom, ast.FunctionDef, ast.ClassDef, ast.Assign), path)
            names = top_names(tree)
            self.assertEqual(len(names), len(set(names)), path)

    def test_class_bodies(self):
        for path, node in nodes(ast.ClassDef):
            self.assertLessEqual(len(node.bases), 1, (path, node.name))
            for row in node.body:
                self.assertIsInstance(row, (ast.FunctionDef, ast.Pass), (path, row.lineno))


class TestNames(unittest.TestCase):
    def test_bound_names(self):
        for path, tree in TREES.items():
            for name in bound_names(tree):
                if name not in DUNDERS:
                    self.assertRegex(name, r"\A[A-Za-z][A-Za-z0-9_]*\Z", path)
                    self.assertNotIn(name, UNUSED, path)
        for path, node in nodes((ast.arg, ast.Name)):
            name = node.arg if isinstance(node, ast.arg) else node.id
            if hasattr(builtins, name):
                self.assertIn(name, BUILTINS, (path, node.lineno))
                self.assertNotIsInstance(getattr(node, "ctx", ast.Store()), ast.Store, (path, node.lineno))

    def test_methods(self):
        own = {node.name for path, node in nodes(ast.FunctionDef)}
        for path, node in nodes(ast.Call):
            if isinstance(node.func, ast.Attribute):
                self.assertTrue(node.func.attr in METHODS or node.func.attr in own, (path, node.lineno))

    def test_no_name_is_a_method_here_and_a_value_there(self):
        rows = [row for path, node in nodes(ast.ClassDef) for row in node.body]
        methods = [row.name for row in rows if isinstance(row, ast.FunctionDef)]
        for path, node in nodes(ast.Attribute):
            if isinstance(node.ctx, ast.Store):
                self.assertNotIn(node.attr, methods, (path, node.lineno))

    def test_locals_are_not_called_like_classes_or_imports(self):
        for path, tree in TREES.items():
            taken = [row.name for row in tree.body if isinstance(row, ast.ClassDef)]
            for row in tree.body:
                if isinstance(row, ast.ImportFrom):
                    taken.extend(alias.name for alias in row.names)
            for node in ast.walk(tree):
                if isinstance(node, ast.arg):
                    self.assertNotIn(node.arg, taken, (path, node.lineno))
                if isinstance(node, ast.Name) and isinstance(node.ctx, ast.Store):
                    self.assertNotIn(node.id, taken, (path, node.lineno))


class TestFunctions(unittest.TestCase):
    def test_plain_parameters(self):
        for path, node in nodes((ast.FunctionDef, ast.Lambda)):
            rest = node.args
            self.assertFalse(rest.vararg or rest.kwarg or rest.kwonlyargs or rest.posonlyargs, (path, node.lineno))
        for path, node in nodes(ast.arg):
            self.assertIsNone(node.annotation, (path, node.lineno))
        for path, node in nodes(ast.FunctionDef):
            self.assertIsNone(node.returns, (path, node.lineno))
            # A text by itself is no call.
            self.assertIsNone(ast.get_docstring(node), (path, node.lineno))

    def test_calls_by_themselves(self):
        for path, tree in TREES.items():
            for node in ast.walk(tree):
                if isinstance(node, ast.Expr) and node not in tree.body:
                    self.assertIsInstance(node.value, ast.Call, (path, node.lineno))

    def test_init_gives_back_nothing(self):
        for path, node in nodes(ast.FunctionDef):
            if node.name == "__init__":
                self.assertFalse([row for row in ast.walk(node) if isinstance(row, ast.Return)], path)


class TestWalks(unittest.TestCase):
    def test_walked_on_the_spot(self):
        for path, tree in TREES.items():
            spots = set()
            for node in ast.walk(tree):
                if isinstance(node, (ast.For, ast.comprehension)):
                    spots.add(node.iter)
                if isinstance(node, ast.Call) and getattr(node.func, "id", None) in WALKERS and node.args:
                    spots.add(node.args[0])
            for node in ast.walk(tree):
                if isinstance(node, ast.Call) and is_walk(node):
                    self.assertIn(node, spots, (path, node.lineno))


    def test_sets_are_not_kept(self):
        spots = set()
        for path, node in nodes((ast.Call, ast.Compare)):
            if isinstance(node, ast.Compare):
                spots.update([node.left] + node.comparators)
            elif getattr(node.func, "id", None) in ("sorted", "len"):
                spots.update(node.args)
        for path, node in nodes(ast.Set):
            self.assertIn(node, spots, (path, node.lineno))
        for path, node in nodes(ast.Call):
            if getattr(node.func, "id", None) in ("set", "frozenset"):
                self.assertIn(node, spots, (path, node.lineno))


class TestTexts(unittest.TestCase):
    def test_signs_within_texts(self):
        for path, node in nodes(ast.Constant):
            if isinstance(node.value, str):
                self.assertNotIn("%", node.value, (path, node.lineno))

    def test_plain_names_within_braces(self):
        for path, node in nodes(ast.FormattedValue):
            self.assertIsInstance(node.value, ast.Name, (path, node.lineno))
            self.assertIsNone(node.format_spec, (path, node.lineno))

    def test_powers_are_written_out(self):
        for path, node in nodes(ast.BinOp):
            if isinstance(node.op, ast.Pow):
                self.assertIn(getattr(node.right, "value", None), range(65), (path, node.lineno))


def is_walk(call):
    if isinstance(call.func, ast.Name):
        return call.func.id in WALKED
    return isinstance(call.func, ast.Attribute) and call.func.attr in WALKED_METHODS


if __name__ == "__main__":
    unittest.main()
