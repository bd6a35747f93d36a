"""The package keeps to the part of Python that it may use.

Tested are those rules that can be seen in the code line by line; their
numbers stand in the names of the tests.
"""

import ast
import pathlib
import re
import unittest

FOLDER = pathlib.Path(__file__).resolve().parent.parent / "slanttables"

NODES = set("""
    Module Expr Constant ImportFrom alias FunctionDef arguments arg Lambda ClassDef Assign AugAssign AnnAssign If While
    For Return Break Continue Pass Raise Assert Delete Try ExceptHandler Name Attribute Subscript Slice Starred Tuple
    List Dict Set ListComp DictComp SetComp comprehension JoinedStr FormattedValue Load Store Del keyword
    BinOp UnaryOp BoolOp Compare IfExp Call And Or Not USub UAdd Invert Add Sub Mult FloorDiv Mod Pow LShift RShift
    BitAnd BitOr BitXor Eq NotEq Lt LtE Gt GtE Is IsNot In NotIn
""".split())

BUILTINS = set("""
    len range enumerate zip min max sum abs sorted reversed int str bool bytes list tuple dict set frozenset isinstance
    ord repr any all divmod Exception ValueError TypeError KeyError IndexError LookupError ZeroDivisionError
    ArithmeticError OverflowError RuntimeError NotImplementedError AttributeError StopIteration
""".split())

METHODS = set("""
    append clear copy count endswith extend find get index insert isalnum isalpha isdigit islower isspace isupper items
    join keys ljust lower lstrip partition pop remove replace reverse rfind rjust rpartition rsplit rstrip setdefault
    split splitlines startswith strip update upper values zfill bit_length add discard sort removeprefix
""".split())

BARRED_WORDS = set("""
    type typing typing_extensions enum Enum IntEnum StrEnum Flag IntFlag Generic Protocol ABC ABCMeta namedtuple
    NamedTuple TypedDict TYPE_CHECKING abstractmethod
""".split())

SPECIAL_METHODS = {"__init__", "__eq__", "__repr__", "__str__", "__len__"}

FILES = sorted(FOLDER.glob("*.py"))


def bound_names(tree):
    """Tell all names that a file binds, in whatever way."""
    names = []
    for node in ast.walk(tree):
        if isinstance(node, (ast.FunctionDef, ast.ClassDef)):
            names.append(node.name)
        elif isinstance(node, ast.arg):
            names.append(node.arg)
        elif isinstance(node, ast.alias):
            names.append(node.asname or node.name)
        elif isinstance(node, ast.Name) and not isinstance(node.ctx, ast.Load):
            names.append(node.id)
        elif isinstance(node, ast.ExceptHandler) and node.name:
            names.append(node.name)
    return names


def module_names(tree):
    """Tell the names that a file binds at module level, as often as it does."""
    names = []
    for node in tree.body:
        if isinstance(node, (ast.FunctionDef, ast.ClassDef)):
            names.append(node.name)
        elif isinstance(node, ast.ImportFrom):
            names += [alias.asname or alias.name for alias in node.names]
        elif isinstance(node, ast.Assign):
            names += [target.id for target in node.targets]
    return names


def imported_files(path):
    """Tell the files that a file imports from, itself not followed further."""
    tree = ast.parse(path.read_text("utf-8"))
    return {node.module.split(".")[1] for node in tree.body if isinstance(node, ast.ImportFrom)}


def local_names(function):
    """Tell the names that a function binds within itself."""
    names = {node.arg for node in ast.walk(function) if isinstance(node, ast.arg)}
    return names | {node.id for node in ast.walk(function)
                    if isinstance(node, ast.Name) and not isinstance(node.ctx, ast.Load)}


class Language(unittest.TestCase):
    def each_node(self):
        for path in FILES:
            for node in ast.walk(ast.parse(path.read_text("utf-8"))):
                yield path, node

    def where(self, path, node):
        return f"{path.name}:{getattr(node, 'lineno', '')}"

    def test_l1_the_folder_has_plain_python_files_alone(self):
        for path in FOLDER.iterdir():
            if path.name != "__pycache__":
                self.assertRegex(path.name, r"^(__init__|__main__|[a-z][a-z0-9_]*)\.py$")
        self.assertIn(FOLDER / "__init__.py", FILES)

    def test_l2_l16_imports(self):
        for path in FILES:
            tree = ast.parse(path.read_text("utf-8"))
            imports = [node for node in ast.walk(tree) if isinstance(node, (ast.Import, ast.ImportFrom))]
            for node in imports:
                self.assertIn(node, tree.body)
                self.assertRegex(node.module, r"^slanttables\.[a-z0-9_]+$")
                self.assertEqual(node.level, 0)
                source = ast.parse((FOLDER / (node.module.split(".")[1] + ".py")).read_text("utf-8"))
                defined = [name for name in module_names(ast.Module(
                    [part for part in source.body if not isinstance(part, ast.ImportFrom)], []))]
                for alias in node.names:
                    self.assertIn(alias.name, defined)

    def test_l3_module_level(self):
        for path in FILES:
            tree = ast.parse(path.read_text("utf-8"))
            for node in tree.body[1:]:
                self.assertIsInstance(node, (ast.ImportFrom, ast.FunctionDef, ast.ClassDef, ast.Assign))
                if isinstance(node, ast.Assign):
                    inner = [type(part) for part in ast.walk(node.value)]
                    self.assertNotIn(ast.Call, inner)
                    self.assertNotIn(ast.ListComp, inner)

    def test_l4_l5_functions_and_classes(self):
        for path, node in self.each_node():
            if isinstance(node, (ast.FunctionDef, ast.ClassDef)):
                self.assertEqual(node.decorator_list, [], self.where(path, node))
            if isinstance(node, ast.arguments):
                self.assertIsNone(node.vararg)
                self.assertIsNone(node.kwarg)
                self.assertEqual(node.posonlyargs, [])
            if isinstance(node, ast.ClassDef):
                self.assertLessEqual(len(node.bases), 1, self.where(path, node))
                for part in node.body:
                    docstring = isinstance(part, ast.Expr) and isinstance(part.value, ast.Constant)
                    self.assertTrue(docstring or isinstance(part, (ast.FunctionDef, ast.Pass)), self.where(path, part))

    def test_l6_l7_nodes(self):
        for path, node in self.each_node():
            self.assertIn(type(node).__name__, NODES, self.where(path, node))
            if isinstance(node, (ast.For, ast.While)):
                self.assertEqual(node.orelse, [], self.where(path, node))
            if isinstance(node, ast.Constant):
                self.assertNotIsInstance(node.value, (float, complex), self.where(path, node))
            if isinstance(node, ast.FormattedValue):
                self.assertIsNone(node.format_spec, self.where(path, node))

    def test_l8_l15_names(self):
        outside = set(dir(__builtins__) if not isinstance(__builtins__, dict) else __builtins__)
        for path in FILES:
            tree = ast.parse(path.read_text("utf-8"))
            names = bound_names(tree)
            for node in ast.walk(tree):
                if isinstance(node, ast.Name) and isinstance(node.ctx, ast.Load):
                    self.assertTrue(node.id in names or node.id in BUILTINS, self.where(path, node))
            self.assertEqual(set(names) & outside, set(), path.name)
            at_module_level = module_names(tree)
            self.assertEqual(len(at_module_level), len(set(at_module_level)), path.name)

    def test_l15_no_local_name_is_that_of_an_import_a_class_or_a_function(self):
        for path in FILES:
            tree = ast.parse(path.read_text("utf-8"))
            for node in ast.walk(tree):
                if isinstance(node, ast.FunctionDef):
                    self.assertEqual(local_names(node) & set(module_names(tree)), set(), self.where(path, node))

    def test_l16_no_two_files_import_from_each_other(self):
        waiting = {path.stem: imported_files(path) for path in FILES}
        while waiting:
            ready = [name for name, others in waiting.items() if not others & set(waiting)]
            self.assertNotEqual(ready, [], sorted(waiting))
            for name in ready:
                del waiting[name]

    def test_l23_what_is_iterated_at_once_is_not_stored(self):
        for path, node in self.each_node():
            if isinstance(node, (ast.Assign, ast.Return)) and isinstance(node.value, ast.Call):
                name = getattr(node.value.func, "id", getattr(node.value.func, "attr", None))
                self.assertNotIn(name, ("zip", "enumerate", "reversed", "range", "items", "keys", "values"),
                                 self.where(path, node))

    def test_every_import_is_used(self):
        for path in FILES:
            tree = ast.parse(path.read_text("utf-8"))
            used = {node.id for node in ast.walk(tree) if isinstance(node, ast.Name)}
            for node in tree.body:
                if isinstance(node, ast.ImportFrom):
                    self.assertEqual({alias.name for alias in node.names} - used, set(), path.name)

    def test_l10_l14_sizes_and_signs(self):
        for path in FILES:
            text = path.read_text("utf-8")
            self.assertRegex(text, r"\A[ -~\n]*\n\Z", path.name)
            self.assertLessEqual(len(text.splitlines()), 400, path.name)
            self.assertLessEqual(max(len(line) for line in text.splitlines()), 120, path.name)
        for path, node in self.each_node():
            if isinstance(node, ast.FunctionDef):
                self.assertLessEqual(node.end_lineno - node.lineno + 1, 40, self.where(path, node))

    def test_l12_plain_names(self):
        for path in FILES:
            for name in bound_names(ast.parse(path.read_text("utf-8"))):
                if name not in SPECIAL_METHODS:
                    self.assertRegex(name, r"^[A-Za-z][A-Za-z0-9_]*$", path.name)

    def test_l17_barred_words(self):
        for path in FILES:
            text = path.read_text("utf-8")
            self.assertEqual(set(re.findall(r"[A-Za-z0-9_]+", text)) & BARRED_WORDS, set(), path.name)
            self.assertNotRegex(text, "dataclass|overload|contextmanager", path.name)

    def test_l20_is_stands_with_none_and_truths_alone(self):
        for path, node in self.each_node():
            if isinstance(node, ast.Compare):
                for sign, right in zip(node.ops, node.comparators):
                    if isinstance(sign, (ast.Is, ast.IsNot)):
                        self.assertIsInstance(right, ast.Constant, self.where(path, node))
                        self.assertIn(repr(right.value), ("None", "True", "False"), self.where(path, node))

    def test_l25_methods_of_values(self):
        own = {node.name for path, node in self.each_node() if isinstance(node, ast.FunctionDef)}
        for path, node in self.each_node():
            if isinstance(node, ast.Call) and isinstance(node.func, ast.Attribute):
                self.assertIn(node.func.attr, METHODS | own, self.where(path, node))

    def test_l27_strings(self):
        for path, node in self.each_node():
            if isinstance(node, ast.Constant) and isinstance(node.value, str):
                self.assertNotIn("%", node.value, self.where(path, node))


if __name__ == "__main__":
    unittest.main()
