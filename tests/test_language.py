"""The package's files keep to the small part of Python that they are written in: the rules that can be seen in them.

Not every rule of that part is held here; a file that passes may still break one that only a reader sees.
"""

import ast
import builtins
import pathlib
import re
import unittest

PACKAGE = pathlib.Path(__file__).resolve().parent.parent / "smallrooms"

NODES = """
    Module Import ImportFrom alias FunctionDef ClassDef arguments arg Assign AugAssign If While For Return Break
    Continue Pass Raise Try ExceptHandler Expr Constant List Tuple Dict Set BinOp UnaryOp BoolOp Compare IfExp Call
    keyword Attribute Subscript Slice ListComp comprehension JoinedStr FormattedValue Lambda Name Load Store
    Add Sub Mult FloorDiv Mod Pow BitAnd BitOr BitXor LShift RShift Invert USub UAdd Not And Or
    Eq NotEq Lt LtE Gt GtE Is IsNot In NotIn
""".split()

BUILTINS = """
    len range enumerate zip min max sum abs sorted reversed int str bool list tuple dict set frozenset isinstance ord
    repr any all divmod Exception ValueError KeyError IndexError LookupError ZeroDivisionError
    ArithmeticError OverflowError RuntimeError NotImplementedError AttributeError StopIteration
""".split()

METHODS = """
    append clear copy count endswith extend find get index insert isalnum isalpha isdigit islower isspace isupper items
    join keys ljust lower lstrip partition pop remove replace reverse rfind rjust rpartition rsplit rstrip setdefault
    split splitlines startswith strip update upper values zfill bit_length
""".split()

WORDS_OUT = """
    type typing typing_extensions enum Enum IntEnum StrEnum Flag IntFlag Generic Protocol ABC ABCMeta namedtuple
    NamedTuple TypedDict TYPE_CHECKING abstractmethod
""".split()

DUNDERS = ("__init__", "__eq__", "__repr__", "__str__", "__len__")


def sources():
    return [(path, path.read_text(encoding="utf-8")) for path in sorted(PACKAGE.rglob("*.py"))]


def walked():
    for path, text in sources():
        for node in ast.walk(ast.parse(text)):
            yield path.name, node


def own_names(tree):
    """All names that a file binds, in whatever way."""
    bound = []
    for node in ast.walk(tree):
        if isinstance(node, ast.Name) and isinstance(node.ctx, ast.Store):
            bound.append(node.id)
        elif isinstance(node, (ast.FunctionDef, ast.ClassDef)):
            bound.append(node.name)
        elif isinstance(node, ast.arg):
            bound.append(node.arg)
        elif isinstance(node, ast.alias):
            bound.append(node.asname or node.name)
        elif isinstance(node, ast.ExceptHandler) and node.name:
            bound.append(node.name)
    return bound


class LanguageTest(unittest.TestCase):
    def test_files(self):
        for path in PACKAGE.rglob("*"):
            if path.name == "__pycache__" or path.parent.name == "__pycache__":
                continue
            self.assertRegex(path.name, r"^(__init__|[a-z][a-z0-9_]*)\.py$")

    def test_rows_and_signs(self):
        for path, text in sources():
            self.assertRegex(text, r"\A[ -~\n]*\Z", path.name)
            rows = text.split("\n")
            self.assertLessEqual(len(rows), 400, path.name)
            self.assertLessEqual(max(map(len, rows)), 120, path.name)

    def test_words_that_stand_nowhere(self):
        for path, text in sources():
            for word in WORDS_OUT:
                self.assertNotRegex(text, rf"\b{word}\b", path.name)
            self.assertNotRegex(text, "dataclass|overload|contextmanager", path.name)

    def test_imports_are_the_packages_own(self):
        for file, node in walked():
            self.assertNotIsInstance(node, ast.Import, file)
            if isinstance(node, ast.ImportFrom):
                self.assertEqual(node.level, 0, file)
                self.assertRegex(node.module, r"^smallrooms\.[a-z_]+$", file)
                self.assertNotIn("*", [alias.name for alias in node.names], file)

    def test_forms(self):
        for file, node in walked():
            self.assertIn(node.__class__.__name__, NODES, (file, getattr(node, "lineno", 0)))
            if isinstance(node, ast.Constant):
                self.assertIsInstance(node.value, (int, str, bool, type(None)), file)
            if isinstance(node, ast.Assign):
                self.assertEqual(len(node.targets), 1, file)
            if isinstance(node, (ast.For, ast.While)):
                self.assertEqual(node.orelse, [], file)
            if isinstance(node, ast.ListComp):
                self.assertEqual(len(node.generators), 1, file)
                self.assertLessEqual(len(node.generators[0].ifs), 1, file)

    def test_defs(self):
        for file, node in walked():
            if isinstance(node, ast.FunctionDef):
                self.assertLessEqual(node.end_lineno - node.lineno + 1, 40, (file, node.name))
                self.assertEqual(node.decorator_list, [], (file, node.name))
                left = node.args
                self.assertEqual((left.vararg, left.kwarg, left.kwonlyargs, left.posonlyargs), (None, None, [], []))
            if isinstance(node, ast.ClassDef):
                self.assertLessEqual(len(node.bases), 1, (file, node.name))
                for inner in node.body:
                    self.assertIsInstance(inner, (ast.FunctionDef, ast.Pass), (file, node.name))

    def test_is_stands_beside_none_and_truths(self):
        for file, node in walked():
            if isinstance(node, ast.Compare):
                for sign, other in zip(node.ops, node.comparators):
                    if isinstance(sign, (ast.Is, ast.IsNot)):
                        self.assertIsInstance(other, ast.Constant, file)

    def test_names(self):
        for path, text in sources():
            tree = ast.parse(text)
            bound = own_names(tree)
            for word in bound:
                if word not in DUNDERS:
                    self.assertRegex(word, r"\A[A-Za-z][A-Za-z0-9_]*\Z", path.name)
                    self.assertFalse(hasattr(builtins, word), (path.name, word))
            for node in ast.walk(tree):
                if isinstance(node, ast.Name):
                    self.assertIn(node.id, bound + BUILTINS, path.name)

    def test_locals_are_not_called_like_imports_or_classes(self):
        for path, text in sources():
            tree = ast.parse(text)
            taken = [alias.name for node in tree.body if isinstance(node, ast.ImportFrom) for alias in node.names]
            taken += [node.name for node in tree.body if isinstance(node, ast.ClassDef)]
            bound = own_names(tree)
            for word in taken:
                self.assertEqual(bound.count(word), 1, (path.name, word))

    def test_each_name_is_bound_once_at_the_top(self):
        for path, text in sources():
            bound = []
            for node in ast.parse(text).body:
                if isinstance(node, ast.Assign):
                    bound.append(node.targets[0].id)
                    self.is_plain(node.value, path.name)
                elif isinstance(node, (ast.FunctionDef, ast.ClassDef)):
                    bound.append(node.name)
            self.assertEqual(len(bound), len(set(bound)), path.name)

    def is_plain(self, node, file):
        if isinstance(node, ast.UnaryOp):
            self.assertIsInstance(node.op, ast.USub, file)
            self.assertIsInstance(node.operand, ast.Constant, file)
        elif isinstance(node, ast.Dict):
            for inner in node.keys + node.values:
                self.assertNotIsInstance(inner, (ast.List, ast.Dict), file)
                self.is_plain(inner, file)
        elif isinstance(node, (ast.Tuple, ast.List)):
            for inner in node.elts:
                self.assertNotIsInstance(inner, (ast.List, ast.Dict), file)
                self.is_plain(inner, file)
        else:
            self.assertIsInstance(node, ast.Constant, file)

    def test_no_two_files_draw_from_one_another(self):
        drawn = {}
        for path, text in sources():
            drawn[path.stem] = [
                node.module.split(".")[1] for node in ast.parse(text).body if isinstance(node, ast.ImportFrom)]
        while drawn:
            free = [stem for stem in drawn if not any(other in drawn for other in drawn[stem])]
            self.assertTrue(free, drawn)
            for stem in free:
                del drawn[stem]

    def test_names_are_drawn_from_the_file_that_defines_them(self):
        defined = {path.stem: [
            getattr(node, "name", None) or node.targets[0].id for node in ast.parse(text).body
            if isinstance(node, (ast.FunctionDef, ast.ClassDef, ast.Assign))] for path, text in sources()}
        for file, node in walked():
            if isinstance(node, ast.ImportFrom):
                for alias in node.names:
                    self.assertIn(alias.name, defined[node.module.split(".")[1]], file)
                    self.assertIsNone(alias.asname, file)

    def test_no_name_is_a_method_and_a_value(self):
        methods = [inner.name for file, node in walked() if isinstance(node, ast.ClassDef) for inner in node.body
                   if isinstance(inner, ast.FunctionDef)]
        values = [node.attr for file, node in walked()
                  if isinstance(node, ast.Attribute) and isinstance(node.ctx, ast.Store)]
        kept = [word for kind in (str, int, list, tuple, dict, set, frozenset, bytes) for word in dir(kind)]
        for word in values:
            self.assertNotIn(word, methods + kept)
        for word in methods:
            if word not in DUNDERS:
                self.assertNotIn(word, [other for other in kept if other not in METHODS + ["add", "discard"]])

    def test_own_values_are_given_through_local_names(self):
        for file, node in walked():
            if isinstance(node, ast.Attribute) and isinstance(node.ctx, ast.Store):
                self.assertIsInstance(node.value, ast.Name, file)
                self.assertTrue(node.value.id.islower(), file)

    def test_errors_are_made_on_the_spot(self):
        for file, node in walked():
            if isinstance(node, ast.Raise):
                self.assertIsInstance(node.exc, ast.Call, file)
            if isinstance(node, ast.ExceptHandler):
                self.assertIsInstance(node.type, ast.Name, file)
                self.assertNotIn(node.type.id, ("Exception", "TypeError"), file)

    def test_sets_are_not_kept(self):
        for file, node in walked():
            for inner in ast.iter_child_nodes(node):
                if isinstance(inner, ast.Call) and isinstance(inner.func, ast.Name) and inner.func.id == "set":
                    stands = isinstance(node, (ast.Compare, ast.BinOp)) or (
                        isinstance(node, ast.Call) and node.func.id in ("sorted", "len"))
                    self.assertTrue(stands, (file, inner.lineno))

    def test_methods(self):
        own = [node.name for file, node in walked() if isinstance(node, ast.FunctionDef)]
        for file, node in walked():
            if isinstance(node, ast.Call) and isinstance(node.func, ast.Attribute):
                self.assertIn(node.func.attr, METHODS + own, file)


if __name__ == "__main__":
    unittest.main()
