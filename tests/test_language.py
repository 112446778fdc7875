"""The package keeps to the part of Python that LANGUAGE.md tells, as far as its rows can be read off the code."""

import ast
import builtins
import pathlib
import re
import unittest

ROOT = pathlib.Path(__file__).resolve().parent.parent / "lockflight"

ERRORS = """Exception ValueError TypeError KeyError IndexError LookupError ZeroDivisionError ArithmeticError
    OverflowError RuntimeError NotImplementedError AttributeError StopIteration""".split()
OWN_NAMES = """len range enumerate zip min max sum abs sorted reversed int str bool list tuple dict set frozenset
    isinstance ord repr any all divmod""".split() + ERRORS
METHODS = """append clear copy count endswith extend find get index insert isalnum isalpha isdigit islower isspace
    isupper items join keys ljust lower lstrip partition pop remove replace reverse rfind rjust rpartition rsplit
    rstrip setdefault split splitlines startswith strip update upper values zfill bit_length""".split()
DUNDERS = ["__init__", "__eq__", "__repr__", "__str__", "__len__"]
NODES = """Module Import ImportFrom alias FunctionDef ClassDef arguments arg Return Assign AugAssign For While If Raise
    Try ExceptHandler Expr Pass Break Continue BoolOp And Or BinOp Add Sub Mult FloorDiv Mod Pow LShift RShift BitOr
    BitXor BitAnd UnaryOp Not USub UAdd Invert Lambda IfExp Dict Set List Tuple ListComp comprehension Compare Eq NotEq
    Lt LtE Gt GtE Is IsNot In NotIn Call keyword FormattedValue JoinedStr Constant Attribute Subscript Name Slice Load
    Store""".split()
FREE_VALUES = "count index title find get join lower upper split strip copy add".split()
BARRED_WORDS = """type typing typing_extensions enum Enum IntEnum StrEnum Flag IntFlag Generic Protocol ABC ABCMeta
    namedtuple NamedTuple TypedDict TYPE_CHECKING abstractmethod""".split()
BARRED_PARTS = ["dataclass", "overload", "contextmanager"]
BARRED_NAMES = "register mro elements open input version_info with_traceback add_note format format_map".split()

KEYWORDS = {
    "sorted": ("key", "reverse"),
    "min": ("key", "default"),
    "max": ("key", "default"),
    "sum": ("start",),
    "enumerate": ("start",),
    "zip": ("strict",),
}
WALKERS = "list tuple dict sorted sum any all enumerate zip min max".split()


def files():
    return sorted(path for path in ROOT.rglob("*") if path.is_file() and "__pycache__" not in path.parts)


def trees():
    return [(path, ast.parse(path.read_text(encoding="utf-8"))) for path in files()]


def nodes(kinds):
    return [(path, node) for path, tree in trees() for node in ast.walk(tree) if isinstance(node, kinds)]


def spot(path, node):
    return path, node.lineno, node.col_offset, node.end_lineno, node.end_col_offset


def bound_names(node):
    if isinstance(node, ast.Name) and isinstance(node.ctx, ast.Store):
        return [node.id]
    if isinstance(node, ast.arg):
        return [node.arg]
    if isinstance(node, (ast.FunctionDef, ast.ClassDef)):
        return [node.name]
    if isinstance(node, ast.ExceptHandler) and node.name:
        return [node.name]
    if isinstance(node, ast.Attribute) and isinstance(node.ctx, ast.Store):
        return [node.attr]
    return []


def class_methods():
    return [
        (node, part.name)
        for path, node in nodes(ast.ClassDef)
        for part in node.body
        if isinstance(part, ast.FunctionDef)
    ]


class FilesTest(unittest.TestCase):
    def test_files_are_plain(self):
        self.assertIn("__init__.py", [path.name for path in files()])
        for path in files():
            self.assertRegex(path.name, r"^([a-z][a-z0-9_]*|__init__|__main__)\.py$")

    def test_signs_and_sizes(self):
        for path in files():
            text = path.read_text(encoding="utf-8")
            self.assertRegex(text, r"\A[ -~\n]*\Z", path)
            self.assertLessEqual(text.count("\n"), 400, path)
            self.assertLessEqual(max(len(line) for line in text.split("\n")), 120, path)

    def test_functions_are_short(self):
        for path, node in nodes(ast.FunctionDef):
            self.assertLessEqual(node.end_lineno - node.lineno + 1, 40, (path, node.name))

    def test_barred_words(self):
        for path in files():
            text = path.read_text(encoding="utf-8")
            self.assertEqual([word for word in re.findall(r"\w+", text) if word in BARRED_WORDS], [], path)
            self.assertEqual([part for part in BARRED_PARTS if part in text], [], path)


class FormsTest(unittest.TestCase):
    def test_only_the_forms_that_are_listed(self):
        for path, node in nodes(ast.AST):
            self.assertIn(type(node).__name__, NODES, (path, getattr(node, "lineno", None)))

    def test_top_of_a_module(self):
        for path, tree in trees():
            self.assertIsNotNone(ast.get_docstring(tree), path)
            kinds = (ast.ImportFrom, ast.FunctionDef, ast.ClassDef, ast.Assign)
            for node in tree.body[1:]:
                self.assertIsInstance(node, kinds, (path, node.lineno))

    def test_imports_are_of_the_package_and_at_the_top(self):
        for path, node in nodes((ast.Import, ast.ImportFrom)):
            self.assertIsInstance(node, ast.ImportFrom, path)
            self.assertEqual((node.level, node.col_offset), (0, 0), path)
            self.assertRegex(node.module, r"^lockflight\.\w+$")
            tree = ast.parse((ROOT / (node.module.split(".")[1] + ".py")).read_text(encoding="utf-8"))
            defined = [name for part in ast.walk(tree) for name in bound_names(part)]
            self.assertEqual([part.name for part in node.names if part.name not in defined], [], path)

    def test_functions_and_classes_are_plain(self):
        for path, node in nodes((ast.FunctionDef, ast.ClassDef)):
            self.assertEqual(node.decorator_list, [], (path, node.name))
        for path, node in nodes(ast.arguments):
            self.assertEqual((node.vararg, node.kwarg, node.kwonlyargs, node.posonlyargs), (None, None, [], []), path)
        for path, node in nodes(ast.ClassDef):
            self.assertLessEqual(len(node.bases), 1, (path, node.name))
            self.assertEqual(node.keywords, [])
            for part in node.body:
                self.assertIsInstance(part, (ast.FunctionDef, ast.Pass), (path, node.name))

    def test_statements(self):
        for path, node in nodes(ast.Expr):
            docstring = node.lineno == 1 and isinstance(node.value, ast.Constant)
            self.assertTrue(docstring or isinstance(node.value, ast.Call), (path, node.lineno))
        for path, node in nodes(ast.Assign):
            self.assertEqual(len(node.targets), 1, (path, node.lineno))
        for path, node in nodes((ast.For, ast.While)):
            self.assertEqual(node.orelse, [], (path, node.lineno))
        for path, node in nodes(ast.Try):
            self.assertEqual(node.finalbody, [], (path, node.lineno))
        for path, node in nodes(ast.ExceptHandler):
            self.assertIsNotNone(node.type, (path, node.lineno))

    def test_values(self):
        for path, node in nodes(ast.Constant):
            self.assertIn(type(node.value), (int, str, bool, type(None)), (path, node.lineno))
            self.assertNotIn("%", str(node.value), (path, node.lineno))
        for path, node in nodes(ast.FormattedValue):
            self.assertIsInstance(node.value, ast.Name, (path, node.lineno))
        for path, node in nodes(ast.ListComp):
            self.assertEqual(len(node.generators), 1, (path, node.lineno))
            self.assertLessEqual(len(node.generators[0].ifs), 1, (path, node.lineno))

    def test_is_stands_beside_none_true_and_false(self):
        for path, node in nodes(ast.Compare):
            if any(isinstance(sign, (ast.Is, ast.IsNot)) for sign in node.ops):
                plain = [side.value for side in [node.left] + node.comparators if isinstance(side, ast.Constant)]
                self.assertTrue(any(value is None or isinstance(value, bool) for value in plain), (path, node.lineno))

    def test_no_two_files_draw_from_one_another(self):
        drawn = {path.stem: set() for path in files()}
        for path, node in nodes(ast.ImportFrom):
            drawn[path.stem].add(node.module.split(".")[1])
        while drawn:
            free = [name for name, others in drawn.items() if not others & set(drawn)]
            self.assertNotEqual(free, [], drawn)
            for name in free:
                del drawn[name]

    def test_keywords_of_pythons_own_functions(self):
        for path, node in nodes(ast.Call):
            name = node.func.id if isinstance(node.func, ast.Name) else ""
            for keyword in node.keywords:
                self.assertIn(keyword.arg, KEYWORDS.get(name, ()), (path, node.lineno))

    def test_walks_are_not_kept(self):
        walked = set()
        for path, node in nodes((ast.For, ast.comprehension)):
            walked.add(spot(path, node.iter))
        for path, node in nodes(ast.Call):
            if isinstance(node.func, ast.Name) and node.func.id in WALKERS:
                walked |= {spot(path, part) for part in node.args[:1]}
        for path, node in nodes(ast.Call):
            name = node.func.id if isinstance(node.func, ast.Name) else getattr(node.func, "attr", "")
            if name in ("zip", "enumerate", "reversed", "range", "items", "keys", "values"):
                self.assertIn(spot(path, node), walked, (path, node.lineno))


class NamesTest(unittest.TestCase):
    def test_no_local_is_called_like_a_class_or_an_import_of_its_file(self):
        for path, tree in trees():
            taken = {part.name for node in tree.body if isinstance(node, ast.ImportFrom) for part in node.names}
            taken |= {node.name for node in tree.body if isinstance(node, ast.ClassDef)}
            for node in ast.walk(tree):
                if isinstance(node, (ast.Name, ast.arg)):
                    self.assertEqual([name for name in bound_names(node) if name in taken], [], (path, node.lineno))

    def test_lists_and_dicts_of_the_top_are_only_read(self):
        for path, tree in trees():
            top = {part.targets[0].id for part in tree.body if isinstance(part, ast.Assign)}
            for node in ast.walk(tree):
                if isinstance(node, ast.Subscript) and not isinstance(node.ctx, ast.Load):
                    self.assertNotIn(getattr(node.value, "id", None), top, (path, node.lineno))
                if isinstance(node, ast.Attribute) and getattr(node.value, "id", None) in top:
                    self.assertEqual(node.attr, "get", (path, node.lineno))
                if isinstance(node, ast.Return):
                    self.assertNotIn(getattr(node.value, "id", None), top, (path, node.lineno))

    def test_bound_names(self):
        for path, node in nodes(ast.AST):
            for name in bound_names(node):
                self.assertNotIn(name, BARRED_NAMES, (path, node.lineno))
                if name not in DUNDERS:
                    self.assertRegex(name, r"^[A-Za-z][A-Za-z0-9_]*$", (path, node.lineno))

    def test_methods_and_values_are_not_called_like_those_of_pythons_own_values(self):
        taken = {name for kind in (str, int, list, dict, set, bytes) for name in dir(kind)} | {"args"}
        own = {name for owner, name in class_methods()} - set(DUNDERS)
        self.assertEqual(own & (taken - set(METHODS) - {"add", "discard"}), set())
        values = {node.attr for path, node in nodes(ast.Attribute) if isinstance(node.ctx, ast.Store)}
        self.assertEqual(values & (taken - set(FREE_VALUES)), set())

    def test_no_name_of_pythons_own_is_bound_anew(self):
        methods = [name for owner, name in class_methods()]
        for path, node in nodes(ast.AST):
            for name in bound_names(node):
                if not isinstance(node, ast.Attribute) and name not in methods:
                    self.assertFalse(hasattr(builtins, name), (path, node.lineno, name))

    def test_pythons_own_names_are_those_listed(self):
        for path, node in nodes(ast.Name):
            if hasattr(builtins, node.id):
                self.assertIn(node.id, OWN_NAMES, (path, node.lineno))

    def test_methods_called_are_own_or_listed(self):
        own = [name for owner, name in class_methods()]
        for path, node in nodes(ast.Call):
            if isinstance(node.func, ast.Attribute):
                self.assertIn(node.func.attr, own + METHODS, (path, node.lineno))

    def test_no_name_is_a_method_and_a_value(self):
        own = {name for owner, name in class_methods()}
        values = {node.attr for path, node in nodes(ast.Attribute) if isinstance(node.ctx, ast.Store)}
        self.assertEqual(own & values, set())

    def test_no_method_stands_twice(self):
        pairs = [(owner.name, name) for owner, name in class_methods()]
        self.assertEqual(len(pairs), len(set(pairs)))


if __name__ == "__main__":
    unittest.main()
