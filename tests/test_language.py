"""The part of the language rules that a walk over the syntax can see, for each file of the package."""

import ast
import builtins
import pathlib
import re
import unittest

PACKAGE = pathlib.Path(__file__).resolve().parent.parent / "braidcomb"

STATEMENTS = (
    ast.Assign, ast.AugAssign, ast.If, ast.While, ast.For, ast.Return, ast.Break, ast.Continue, ast.Pass,
    ast.Raise, ast.Try, ast.Expr, ast.FunctionDef, ast.ClassDef, ast.ImportFrom,
)
TOP_STATEMENTS = (ast.Expr, ast.ImportFrom, ast.FunctionDef, ast.ClassDef, ast.Assign)
EXPRESSIONS = (
    ast.BoolOp, ast.BinOp, ast.UnaryOp, ast.Lambda, ast.IfExp, ast.Dict, ast.ListComp, ast.Compare, ast.Call,
    ast.JoinedStr, ast.FormattedValue, ast.Constant, ast.Attribute, ast.Subscript, ast.Name, ast.List, ast.Tuple,
    ast.Slice, ast.Set,
)
OWN_NAMES = set(
    "len range enumerate zip min max sum abs sorted reversed int str bool list tuple dict set frozenset isinstance "
    "ord repr any all divmod Exception ValueError TypeError KeyError IndexError LookupError ZeroDivisionError "
    "ArithmeticError OverflowError RuntimeError NotImplementedError StopIteration".split()
)
OWN_METHODS = set(
    "append clear copy count endswith extend find get index insert isalnum isalpha isdigit islower isspace isupper "
    "items join keys ljust lower lstrip partition pop remove replace reverse rfind rjust rpartition rsplit rstrip "
    "setdefault split splitlines startswith strip update upper values zfill bit_length".split()
)
PLAIN_NAME = re.compile(r"[A-Za-z][A-Za-z0-9_]*")
FREE_VALUES = set("count index title find get join lower upper split strip copy add".split())
DUNDERS = {"__init__", "__eq__", "__repr__", "__str__", "__len__"}
BANNED_WORDS = re.compile(
    r"\b(type|typing|typing_extensions|enum|Enum|IntEnum|StrEnum|Flag|IntFlag|Generic|Protocol|ABC|ABCMeta|namedtuple"
    r"|NamedTuple|TypedDict|TYPE_CHECKING|abstractmethod|register|mro|elements|open|input|version_info|with_traceback"
    r"|add_note)\b|dataclass|overload|contextmanager"
)


def package_files():
    return sorted(path for path in PACKAGE.iterdir() if path.name != "__pycache__")


def tree_of(path):
    return ast.parse(path.read_text(encoding="utf-8"))


def top_names(tree):
    names = []
    for node in tree.body:
        if isinstance(node, (ast.FunctionDef, ast.ClassDef)):
            names.append(node.name)
        if isinstance(node, ast.Assign):
            names.extend(target.id for target in node.targets)
        if isinstance(node, ast.ImportFrom):
            names.extend(alias.asname or alias.name for alias in node.names)
    return names


def stored_names(tree):
    names = [node.id for node in ast.walk(tree) if isinstance(node, ast.Name) and isinstance(node.ctx, ast.Store)]
    names.extend(node.arg for node in ast.walk(tree) if isinstance(node, ast.arg))
    names.extend(node.name for node in ast.walk(tree) if isinstance(node, (ast.FunctionDef, ast.ClassDef)))
    return names


def stored_values(tree):
    return [node.attr for node in ast.walk(tree) if isinstance(node, ast.Attribute) and isinstance(node.ctx, ast.Store)]


def drawn_from(tree):
    return [node.module for node in tree.body if isinstance(node, ast.ImportFrom)]


class Language(unittest.TestCase):
    def each(self, check):
        files = package_files()
        self.assertIn("__init__.py", [path.name for path in files])
        for path in files:
            with self.subTest(file=path.name):
                check(path, tree_of(path))

    def test_files_and_signs(self):
        def check(path, tree):
            self.assertRegex(path.name, r"^(__init__|__main__|[a-z][a-z0-9_]*)\.py$")
            text = path.read_text(encoding="utf-8")
            self.assertRegex(text, r"\A[ -~\n]*\Z")
            self.assertNotRegex(text, BANNED_WORDS)

        self.each(check)

    def test_sizes(self):
        def check(path, tree):
            lines = path.read_text(encoding="utf-8").split("\n")
            self.assertLessEqual(len(lines), 400)
            self.assertLessEqual(max(len(line) for line in lines), 120)
            for node in ast.walk(tree):
                if isinstance(node, ast.FunctionDef):
                    self.assertLessEqual(node.end_lineno - node.lineno + 1, 40, node.name)

        self.each(check)

    def test_statements_and_expressions(self):
        def check(path, tree):
            for node in tree.body:
                self.assertIsInstance(node, TOP_STATEMENTS)
            for node in ast.walk(tree):
                if isinstance(node, ast.stmt):
                    self.assertIsInstance(node, STATEMENTS)
                if isinstance(node, ast.expr):
                    self.assertIsInstance(node, EXPRESSIONS)
                self.assertNotIsInstance(node, (ast.Div, ast.MatMult))
                self.check_node(node)

        self.each(check)

    def check_node(self, node):
        if isinstance(node, ast.Assign):
            self.assertEqual(len(node.targets), 1)
        if isinstance(node, (ast.FunctionDef, ast.ClassDef)):
            self.assertEqual(node.decorator_list, [])
        if isinstance(node, ast.FunctionDef):
            given = node.args
            self.assertEqual((given.vararg, given.kwarg, given.kwonlyargs, given.posonlyargs), (None, None, [], []))
        if isinstance(node, ast.ClassDef):
            self.assertLessEqual(len(node.bases), 1)
        if isinstance(node, (ast.For, ast.While)):
            self.assertEqual(node.orelse, [])
        if isinstance(node, ast.ListComp):
            self.assertEqual(len(node.generators), 1)
            self.assertLessEqual(len(node.generators[0].ifs), 1)
        if isinstance(node, ast.Constant):
            self.assertNotIsInstance(node.value, (float, bytes, complex))
            self.assertNotIn("%", str(node.value))
        if isinstance(node, ast.FormattedValue):
            self.assertIsInstance(node.value, ast.Name)

    def test_names(self):
        def check(path, tree):
            for name in stored_names(tree):
                if name in DUNDERS:
                    continue
                self.assertTrue(PLAIN_NAME.fullmatch(name), name)
                self.assertFalse(hasattr(builtins, name), name)
            known = set(top_names(tree)) | set(stored_names(tree))
            for node in ast.walk(tree):
                if isinstance(node, ast.Name) and node.id not in known:
                    self.assertIn(node.id, OWN_NAMES)
            self.assertEqual(len(top_names(tree)), len(set(top_names(tree))))

        self.each(check)

    def test_no_local_is_called_like_a_class_or_an_import(self):
        def check(path, tree):
            taken = [node.name for node in tree.body if isinstance(node, ast.ClassDef)]
            for node in tree.body:
                if isinstance(node, ast.ImportFrom):
                    taken.extend(alias.name for alias in node.names)
            for deed in ast.walk(tree):
                if isinstance(deed, ast.FunctionDef):
                    inner = [name for part in deed.body for name in stored_names(part)]
                    inner.extend(each.arg for each in deed.args.args)
                    self.assertEqual([name for name in inner if name in taken], [], deed.name)

        self.each(check)

    def test_values_and_methods_of_objects(self):
        kinds = (str, int, list, dict, set, bytes)
        values = [name for path in package_files() for name in stored_values(tree_of(path))]
        for name in values:
            self.assertTrue(name in FREE_VALUES or not any(hasattr(kind, name) for kind in kinds), name)

        def check(path, tree):
            for node in ast.walk(tree):
                if isinstance(node, ast.ClassDef):
                    methods = [part.name for part in node.body if isinstance(part, ast.FunctionDef)]
                    self.assertEqual(len(methods), len(set(methods)), node.name)
                    self.assertEqual([name for name in methods if name in values], [], node.name)

        self.each(check)

    def test_methods(self):
        own = {name for path in package_files() for name in stored_names(tree_of(path))}

        def check(path, tree):
            for node in ast.walk(tree):
                if isinstance(node, ast.Call) and isinstance(node.func, ast.Attribute):
                    self.assertTrue(node.func.attr in OWN_METHODS | own | DUNDERS, node.func.attr)

        self.each(check)

    def test_imports(self):
        def check(path, tree):
            for node in tree.body:
                if not isinstance(node, ast.ImportFrom):
                    continue
                self.assertEqual(node.level, 0)
                self.assertRegex(node.module, r"^braidcomb\.[a-z][a-z0-9_]*$")
                source = tree_of(PACKAGE / (node.module.split(".")[1] + ".py"))
                drawn = [alias.name for alias in node.names]
                defined = [name for name in top_names(source) if name in stored_names(source)]
                self.assertEqual([name for name in drawn if name not in defined], [])

        self.each(check)

    def test_no_two_files_draw_from_one_another(self):
        ahead = {"braidcomb." + path.stem: drawn_from(tree_of(path)) for path in package_files()}
        while ahead:
            free = [name for name, drawn in ahead.items() if not any(each in ahead for each in drawn)]
            self.assertNotEqual(free, [], sorted(ahead))
            ahead = {name: drawn for name, drawn in ahead.items() if name not in free}


if __name__ == "__main__":
    unittest.main()
