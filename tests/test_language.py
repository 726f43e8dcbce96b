"""The package's files keep to those rules of its language that can be seen in the text alone."""

import ast
import builtins
import pathlib
import re
import unittest

PACKAGE = pathlib.Path(__file__).resolve().parent.parent / "stopglass"

NODES = """Module Expr Assign AugAssign If While For Return Break Continue Pass Raise Try ExceptHandler
FunctionDef ClassDef ImportFrom alias arguments arg Lambda Name Load Store Constant List Tuple Dict Set
BinOp UnaryOp BoolOp Compare IfExp Call keyword Attribute Subscript Slice ListComp comprehension
JoinedStr FormattedValue Add Sub Mult FloorDiv Mod Pow LShift RShift BitAnd BitOr BitXor Invert USub UAdd
Not And Or Eq NotEq Lt LtE Gt GtE Is IsNot In NotIn""".split()

BUILTINS = """len range enumerate zip min max sum abs sorted reversed int str bool list tuple dict set frozenset
isinstance ord repr any all divmod Exception ValueError TypeError KeyError IndexError LookupError
ZeroDivisionError ArithmeticError OverflowError RuntimeError NotImplementedError AttributeError
StopIteration""".split()

METHODS = """append clear copy count endswith extend find get index insert isalnum isalpha isdigit islower isspace
isupper items join keys ljust lower lstrip partition pop remove replace reverse rfind rjust rpartition rsplit
rstrip setdefault split splitlines startswith strip update upper values zfill bit_length""".split()

UNUSED_NAMES = """register mro elements open input version_info with_traceback add_note attrgetter breakpoint
builtins compile copyright credits delattr dir eval exec exit gc getattr globals hasattr help id importlib
license locals methodcaller os quit setattr super type vars sys chr print format format_map""".split()

UNUSED_WORDS = """type typing typing_extensions enum Enum IntEnum StrEnum Flag IntFlag Generic Protocol ABC ABCMeta
namedtuple NamedTuple TypedDict TYPE_CHECKING abstractmethod""".split()

OWN_UNDERSCORED = ("__init__", "__eq__", "__repr__", "__str__", "__len__")
WALKED_AT_ONCE = ("zip", "enumerate", "reversed", "range")
WALKERS_OF_THESE = ("list", "tuple", "dict", "sorted", "sum", "any", "all", "enumerate", "zip", "min", "max")


def names_bound(node):
    if isinstance(node, (ast.FunctionDef, ast.ClassDef)):
        return [node.name]
    if isinstance(node, ast.arg):
        return [node.arg]
    if isinstance(node, ast.ExceptHandler):
        return [node.name] if node.name else []
    if isinstance(node, ast.Name) and isinstance(node.ctx, ast.Store):
        return [node.id]
    return []


def names_at_top(tree):
    found = []
    for node in tree.body:
        if isinstance(node, (ast.FunctionDef, ast.ClassDef)):
            found.append(node.name)
        elif isinstance(node, ast.Assign):
            found.append(node.targets[0].id)
    return found


class LanguageTest(unittest.TestCase):
    def setUp(self):
        self.files = sorted(path for path in PACKAGE.iterdir() if path.name != "__pycache__")
        self.texts = {path.name: path.read_text(encoding="utf-8") for path in self.files}
        self.trees = {name: ast.parse(text) for name, text in self.texts.items()}

    def each_node(self):
        for name, tree in self.trees.items():
            for node in ast.walk(tree):
                yield (name, getattr(node, "lineno", 0)), node

    def test_files(self):
        self.assertIn("__init__.py", self.texts)
        for path in self.files:
            self.assertTrue(path.is_file(), path)
            self.assertRegex(path.name, r"\A([a-z][a-z0-9_]*|__init__)\.py\Z")
            self.assertFalse(path.name.startswith("test"), path)
            self.assertNotIn(path.stem, list(vars(builtins)) + ["site", "conftest"])

    def test_signs_and_sizes(self):
        for name, text in self.texts.items():
            self.assertEqual([sign for sign in text if sign != "\n" and not " " <= sign <= "~"], [], name)
            rows = text.splitlines()
            self.assertLessEqual(len(rows), 400, name)
            self.assertLessEqual(max([len(row) for row in rows] + [0]), 120, name)
        for at, node in self.each_node():
            if isinstance(node, ast.FunctionDef):
                self.assertLessEqual(node.end_lineno - node.lineno + 1, 40, at)

    def test_words_that_stand_nowhere(self):
        for name, text in self.texts.items():
            found = re.findall(r"[A-Za-z_][A-Za-z0-9_]*", text)
            self.assertEqual([word for word in found if word in UNUSED_WORDS], [], name)
            self.assertIsNone(re.search("dataclass|overload|contextmanager", text), name)

    def test_kinds_of_nodes(self):
        for at, node in self.each_node():
            self.assertIn(type(node).__name__, NODES, at)
            if isinstance(node, (ast.FunctionDef, ast.ClassDef)):
                self.assertEqual(node.decorator_list, [], at)
            if isinstance(node, (ast.For, ast.While)):
                self.assertEqual(node.orelse, [], at)
            if isinstance(node, ast.Try):
                self.assertEqual(node.finalbody, [], at)
            if isinstance(node, ast.Assign):
                self.assertEqual(len(node.targets), 1, at)
            if isinstance(node, ast.ListComp):
                self.assertEqual(len(node.generators), 1, at)
                self.assertLessEqual(len(node.generators[0].ifs), 1, at)
            if isinstance(node, ast.arguments):
                self.assertEqual((node.vararg, node.kwarg, node.kwonlyargs, node.posonlyargs), (None, None, [], []), at)
            if isinstance(node, ast.BinOp) and isinstance(node.op, ast.Pow):
                self.assertIsInstance(node.right, ast.Constant, at)
                self.assertLessEqual(node.right.value, 64, at)
            if isinstance(node, ast.Constant):
                self.assertIn(type(node.value), (int, str, bool, type(None)), at)
                self.assertNotIn("%", str(node.value), at)

    def test_tops_of_files(self):
        for name, tree in self.trees.items():
            self.assertIsNotNone(ast.get_docstring(tree), name)
            for node in tree.body[1:]:
                self.assertIsInstance(node, (ast.ImportFrom, ast.FunctionDef, ast.ClassDef, ast.Assign), name)
            tops = names_at_top(tree)
            self.assertEqual(len(tops), len(set(tops)), name)
            for node in tree.body:
                if isinstance(node, ast.Assign):
                    inner = [part for part in ast.walk(node.value) if isinstance(part, (ast.List, ast.Dict, ast.Set))]
                    self.assertIn(inner, ([], [node.value]), name)

    def test_imports(self):
        drawn = {}
        for at, node in self.each_node():
            if isinstance(node, ast.ImportFrom):
                self.assertIn(node, self.trees[at[0]].body, at)
                self.assertEqual(node.level, 0, at)
                package, _, module = node.module.partition(".")
                self.assertEqual(package, "stopglass", at)
                drawn.setdefault(at[0], []).append(module + ".py")
                for alias in node.names:
                    self.assertIn(alias.name, names_at_top(self.trees[module + ".py"]), at)
        for start in drawn:
            seen, waiting = [], list(drawn[start])
            while waiting:
                name = waiting.pop()
                self.assertNotEqual(name, start)
                if name not in seen:
                    seen.append(name)
                    waiting.extend(drawn.get(name, []))

    def test_names(self):
        known = vars(builtins)
        for at, node in self.each_node():
            for name in names_bound(node):
                self.assertNotIn(name, UNUSED_NAMES, at)
                if name not in OWN_UNDERSCORED:
                    self.assertRegex(name, r"\A[A-Za-z][A-Za-z0-9_]*\Z", at)
            if isinstance(node, ast.Name):
                self.assertNotIn(node.id, UNUSED_NAMES, at)
                if node.id in known:
                    self.assertIn(node.id, BUILTINS, at)
                    self.assertIsInstance(node.ctx, ast.Load, at)
            if isinstance(node, ast.arg):
                self.assertNotIn(node.arg, known, at)
        for name, tree in self.trees.items():
            taken = [node.name for node in tree.body if isinstance(node, ast.ClassDef)]
            for node in tree.body:
                if isinstance(node, ast.ImportFrom):
                    taken += [alias.name for alias in node.names]
            for node in ast.walk(tree):
                if isinstance(node, ast.arg) or isinstance(node, ast.Name) and isinstance(node.ctx, ast.Store):
                    self.assertNotIn(names_bound(node)[0], taken, (name, node.lineno))

    def test_classes(self):
        for name, tree in self.trees.items():
            for node in tree.body:
                if isinstance(node, ast.ClassDef):
                    self.assertLessEqual(len(node.bases), 1, name)
                    for part in node.body:
                        self.assertIsInstance(part, (ast.FunctionDef, ast.Pass), (name, part.lineno))

    def test_methods_and_values(self):
        methods, values = [], []
        for _, node in self.each_node():
            if isinstance(node, ast.ClassDef):
                methods += [part.name for part in node.body if isinstance(part, ast.FunctionDef)]
            if isinstance(node, ast.Attribute) and isinstance(node.ctx, ast.Store):
                values.append(node.attr)
        self.assertEqual(sorted(set(methods) & set(values)), [])
        for at, node in self.each_node():
            if isinstance(node, ast.Attribute):
                self.assertIn(node.attr, METHODS + methods + values, at)
                self.assertNotIn(node.attr, UNUSED_NAMES, at)

    def test_is_stands_beside_none_true_and_false(self):
        for at, node in self.each_node():
            if isinstance(node, ast.Compare):
                for operator, right in zip(node.ops, node.comparators):
                    if isinstance(operator, (ast.Is, ast.IsNot)):
                        self.assertIsInstance(right, ast.Constant, at)
                        self.assertIn(right.value, (None, True, False), at)

    def test_walked_at_once(self):
        walked = []
        for _, node in self.each_node():
            if isinstance(node, (ast.For, ast.comprehension)):
                walked.append(node.iter)
            if isinstance(node, ast.Call) and isinstance(node.func, ast.Name) and node.func.id in WALKERS_OF_THESE:
                walked += node.args if node.func.id == "zip" else node.args[:1]
        for at, node in self.each_node():
            if isinstance(node, ast.Call):
                called = node.func.id if isinstance(node.func, ast.Name) else getattr(node.func, "attr", "")
                if called in WALKED_AT_ONCE + ("items", "keys", "values"):
                    self.assertIn(node, walked, at)


if __name__ == "__main__":
    unittest.main()
