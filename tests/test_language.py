"""The package keeps to the part of Python that the language document tells: what can be seen of its rules."""

import ast
import builtins
import pathlib
import re
import unittest

FOLDER = pathlib.Path(__file__).resolve().parent.parent / "signalwise"
NODES = (
    "Module Expr Constant ImportFrom alias FunctionDef arguments arg ClassDef Assign Name Load Store If While For "
    "Return Break Continue Pass Raise Try ExceptHandler Call Attribute Subscript Slice List Tuple Dict ListComp "
    "comprehension JoinedStr FormattedValue BinOp UnaryOp BoolOp Compare IfExp Lambda And Or Not USub Add Sub Mult "
    "FloorDiv Mod Pow BitAnd BitOr BitXor LShift RShift Invert Eq NotEq Lt LtE Gt GtE Is IsNot In NotIn AugAssign "
    "keyword"
).split()
OWN_NAMES = (
    "len range enumerate zip min max sum abs sorted reversed int str bool list tuple dict set frozenset isinstance ord "
    "repr any all divmod Exception ValueError TypeError KeyError IndexError LookupError ZeroDivisionError "
    "ArithmeticError OverflowError RuntimeError NotImplementedError AttributeError StopIteration"
).split()
OWN_METHODS = (
    "append clear copy count endswith extend find get index insert isalnum isalpha isdigit islower isspace isupper "
    "items join keys ljust lower lstrip partition pop remove replace reverse rfind rjust rpartition rsplit rstrip "
    "setdefault split splitlines startswith strip update upper values zfill bit_length"
).split()
BARRED_WORDS = (
    "type typing typing_extensions enum Enum IntEnum StrEnum Flag IntFlag Generic Protocol ABC ABCMeta namedtuple "
    "NamedTuple TypedDict TYPE_CHECKING abstractmethod"
).split()
BARRED_NAMES = "register mro elements open input version_info with_traceback add_note attrgetter methodcaller".split()
BARRED_FILES = "test tests testing site conftest sitecustomize usercustomize".split() + BARRED_WORDS
WALKED = "zip enumerate reversed range items keys values".split()


def files():
    return [path for path in sorted(FOLDER.rglob("*")) if "__pycache__" not in path.parts]


def trees():
    return [(path.name, ast.parse(path.read_text(encoding="ascii"))) for path in files()]


def module_name(path_name):
    return path_name.removesuffix(".py")


def top_names(tree):
    names = []
    for row in tree.body:
        if isinstance(row, (ast.FunctionDef, ast.ClassDef)):
            names.append(row.name)
        if isinstance(row, ast.Assign):
            names.append(row.targets[0].id)
        if isinstance(row, ast.ImportFrom):
            names += [alias.asname or alias.name for alias in row.names]
    return names


def imports(tree):
    return [row for row in ast.walk(tree) if isinstance(row, ast.ImportFrom)]


def is_plain(value):
    if isinstance(value, (ast.List, ast.Tuple)):
        return all(is_plain(inner) for inner in value.elts)
    if isinstance(value, ast.Dict):
        return all(is_plain(inner) for inner in value.keys + value.values)
    return isinstance(value, (ast.Constant, ast.Name))


def own_methods():
    return [row.name for _, tree in trees() for kind in ast.walk(tree) if isinstance(kind, ast.ClassDef)
            for row in kind.body if isinstance(row, ast.FunctionDef)]


def own_values():
    return [node.attr for _, tree in trees() for node in ast.walk(tree)
            if isinstance(node, ast.Attribute) and isinstance(node.ctx, ast.Store)]


class Files(unittest.TestCase):
    def test_names(self):
        self.assertTrue(files())
        for path in files():
            self.assertTrue(path.is_file(), path)
            self.assertEqual(path.parent, FOLDER)
            self.assertRegex(path.name, r"\A([a-z][a-z0-9_]*|__init__|__main__)\.py\Z")
            self.assertNotIn(path.stem, BARRED_FILES + dir(builtins))
            self.assertFalse(path.stem.startswith("test_"))

    def test_signs_and_sizes(self):
        for path in files():
            text = path.read_bytes().decode("ascii")
            self.assertRegex(text, r"\A[ -~\n]*\Z", path)
            rows = text.splitlines()
            self.assertLessEqual(len(rows), 400, path)
            for row in rows:
                self.assertLessEqual(len(row), 120, row)

    def test_words_that_stand_nowhere(self):
        for path in files():
            words = re.findall(r"\w+", path.read_text())
            for word in words:
                self.assertNotIn(word, BARRED_WORDS, path)
                self.assertNotRegex(word, "dataclass|overload|contextmanager", path)


class Tops(unittest.TestCase):
    def test_rows_of_the_top(self):
        for name, tree in trees():
            self.assertIsNotNone(ast.get_docstring(tree), name)
            for row in tree.body[1:]:
                self.assertIsInstance(row, (ast.ImportFrom, ast.FunctionDef, ast.ClassDef, ast.Assign), name)
                if isinstance(row, ast.Assign):
                    self.assertTrue(is_plain(row.value), (name, row.lineno))

    def test_each_name_once(self):
        for name, tree in trees():
            names = top_names(tree)
            self.assertEqual(len(names), len(set(names)), name)
            self.assertFalse(set(names) & set(dir(builtins)), name)

    def test_imports_from_the_very_file(self):
        defined = {"signalwise." + module_name(name): top_names(tree) for name, tree in trees()}
        for name, tree in trees():
            for row in imports(tree):
                self.assertIn(row, tree.body, name)
                self.assertEqual(row.level, 0)
                self.assertIn(row.module, defined)
                drawn = [alias.name for alias in row.names]
                for source_name, source in trees():
                    if "signalwise." + module_name(source_name) == row.module:
                        handed_on = [alias.name for inner in imports(source) for alias in inner.names]
                        self.assertFalse(set(drawn) & set(handed_on), (name, drawn))
                self.assertLessEqual(set(drawn), set(defined[row.module]), name)

    def test_no_two_files_draw_from_one_another(self):
        draws = {"signalwise." + module_name(name): {row.module for row in imports(tree)} for name, tree in trees()}
        while draws:
            free = [name for name, others in draws.items() if not others & set(draws)]
            self.assertTrue(free, draws)
            draws = {name: others for name, others in draws.items() if name not in free}


class Rows(unittest.TestCase):
    def test_kinds_of_rows_and_values(self):
        for name, tree in trees():
            for node in ast.walk(tree):
                self.assertIn(type(node).__name__, NODES, (name, getattr(node, "lineno", None)))
                if isinstance(node, ast.Constant):
                    self.assertIsInstance(node.value, (int, str, type(None)), name)
                    self.assertNotIn(chr(37), str(node.value), name)
                if isinstance(node, ast.Assign):
                    self.assertEqual(len(node.targets), 1)
                    self.assertIsInstance(node.targets[0], (ast.Name, ast.Attribute, ast.Subscript))
                if isinstance(node, (ast.For, ast.While)):
                    self.assertEqual(node.orelse, [], name)
                if isinstance(node, ast.FormattedValue):
                    self.assertIsInstance(node.value, ast.Name, (name, node.lineno))
                    self.assertIsNone(node.format_spec)
                if isinstance(node, ast.ListComp):
                    self.assertEqual(len(node.generators), 1)
                    self.assertLessEqual(len(node.generators[0].ifs), 1)
                if isinstance(node, ast.Compare):
                    self.is_beside_plain(node, name)

    def is_beside_plain(self, node, name):
        for operator, right in zip(node.ops, node.comparators):
            if isinstance(operator, (ast.Is, ast.IsNot)):
                self.assertIsInstance(right, ast.Constant, name)
                self.assertIn(right.value, (None, True, False), name)

    def test_a_row_by_itself_is_a_call(self):
        for name, tree in trees():
            for node in ast.walk(tree):
                if isinstance(node, ast.Expr) and node is not tree.body[0]:
                    self.assertIsInstance(node.value, ast.Call, (name, node.lineno))

    def test_functions(self):
        for name, tree in trees():
            for node in ast.walk(tree):
                if not isinstance(node, ast.FunctionDef):
                    continue
                self.assertLessEqual(node.end_lineno - node.lineno + 1, 40, (name, node.name))
                self.assertEqual(node.decorator_list, [])
                self.assertIsNone(node.returns)
                given = node.args
                self.assertFalse(given.vararg or given.kwarg or given.kwonlyargs or given.posonlyargs, node.name)
                self.assertTrue(all(is_plain(value) for value in given.defaults))
                self.assertTrue(all(arg.annotation is None for arg in given.args))

    def test_classes(self):
        for name, tree in trees():
            for node in ast.walk(tree):
                if isinstance(node, ast.ClassDef):
                    self.assertIn(node, tree.body)
                    self.assertLessEqual(len(node.bases), 1)
                    self.assertEqual(node.keywords + node.decorator_list, [])
                    for row in node.body:
                        self.assertIsInstance(row, (ast.FunctionDef, ast.Pass), (name, node.name))


class Names(unittest.TestCase):
    def test_python_s_own_names(self):
        for name, tree in trees():
            for node in ast.walk(tree):
                if isinstance(node, ast.Name) and node.id in dir(builtins):
                    self.assertIn(node.id, OWN_NAMES, (name, node.lineno))
                    self.assertIsInstance(node.ctx, ast.Load, (name, node.lineno))

    def test_every_name_is_plain(self):
        for name, tree in trees():
            for node in ast.walk(tree):
                for word in (getattr(node, "id", None), getattr(node, "attr", None), getattr(node, "arg", None),
                             getattr(node, "name", None)):
                    if isinstance(word, str) and word not in ("__init__", "__eq__", "__repr__", "__str__", "__len__"):
                        self.assertRegex(word, r"\A[A-Za-z][A-Za-z0-9_]*\Z", name)
                        self.assertNotIn(word, BARRED_NAMES, name)

    def test_locals_hide_nothing(self):
        for name, tree in trees():
            taken = [row.name for row in tree.body if isinstance(row, (ast.ClassDef, ast.FunctionDef))]
            taken += [alias.name for row in imports(tree) for alias in row.names] + dir(builtins)
            for node in ast.walk(tree):
                if isinstance(node, ast.arg):
                    self.assertNotIn(node.arg, taken, (name, node.lineno))
                if isinstance(node, ast.Name) and isinstance(node.ctx, ast.Store):
                    self.assertNotIn(node.id, taken, (name, node.lineno))

    def test_methods(self):
        methods, kept = own_methods(), own_values()
        self.assertFalse(set(methods) & set(kept))
        for name, tree in trees():
            for node in ast.walk(tree):
                if isinstance(node, ast.Attribute) and isinstance(node.ctx, ast.Load):
                    self.assertIn(node.attr, OWN_METHODS + methods + kept, (name, node.lineno))

    def test_sets_and_walks_stand_on_the_spot(self):
        for name, tree in trees():
            held = []
            for node in ast.walk(tree):
                if isinstance(node, (ast.Assign, ast.Return, ast.AugAssign)):
                    held.append(node.value)
                if isinstance(node, ast.For) and isinstance(node.iter, ast.Call):
                    self.assertNotEqual(getattr(node.iter.func, "id", None), "set", name)
            for value in held:
                if isinstance(value, ast.Call):
                    called = getattr(value.func, "id", getattr(value.func, "attr", None))
                    self.assertNotIn(called, WALKED + ["set", "frozenset"], (name, value.lineno))


if __name__ == "__main__":
    unittest.main()
