"""The form of the package's files: those rules of the language that can be seen file by file."""

import ast
import builtins
import pathlib
import re
import unittest

ROOT = pathlib.Path(__file__).resolve().parent.parent
PACKAGE = ROOT / "daysheet"
FILES = sorted(PACKAGE.glob("*.py"))

OWN_NAMES = set(
    "len range enumerate zip min max sum abs sorted reversed int str bool list tuple dict set frozenset isinstance "
    "ord repr any all divmod Exception ValueError TypeError KeyError IndexError LookupError ZeroDivisionError "
    "ArithmeticError OverflowError RuntimeError NotImplementedError AttributeError StopIteration".split()
)
METHODS = set(
    "append clear copy count endswith extend find get index insert isalnum isalpha isdigit islower isspace isupper "
    "items join keys ljust lower lstrip partition pop remove replace reverse rfind rjust rpartition rsplit rstrip "
    "setdefault split splitlines startswith strip update upper values zfill bit_length".split()
)
DOUBLE = {"__init__", "__eq__", "__repr__", "__str__", "__len__"}
WORDS = re.compile(
    r"\b(type|typing|typing_extensions|enum|Enum|IntEnum|StrEnum|Flag|IntFlag|Generic|Protocol|ABC|ABCMeta"
    r"|namedtuple|NamedTuple|TypedDict|TYPE_CHECKING|abstractmethod)\b|dataclass|overload|contextmanager"
)
STATEMENTS = (
    ast.Assign, ast.AugAssign, ast.If, ast.While, ast.For, ast.Return, ast.Break, ast.Continue, ast.Pass, ast.Raise,
    ast.Try, ast.Expr, ast.FunctionDef, ast.ClassDef, ast.ImportFrom,
)
EXPRESSIONS = (
    ast.Constant, ast.List, ast.Tuple, ast.Dict, ast.Set, ast.BinOp, ast.BoolOp, ast.UnaryOp, ast.Compare, ast.IfExp,
    ast.Call, ast.Attribute, ast.Subscript, ast.Slice, ast.ListComp, ast.JoinedStr, ast.FormattedValue, ast.Name,
    ast.Lambda,
)


def bound_names(tree):
    names = []
    for node in ast.walk(tree):
        if isinstance(node, (ast.FunctionDef, ast.ClassDef)):
            names.append(node.name)
        elif isinstance(node, ast.arg):
            names.append(node.arg)
        elif isinstance(node, ast.alias):
            names.append(node.asname or node.name)
        elif isinstance(node, ast.Name) and isinstance(node.ctx, ast.Store):
            names.append(node.id)
        elif isinstance(node, ast.ExceptHandler) and node.name:
            names.append(node.name)
    return names


def local_names(tree):
    names = []
    for part in ast.walk(tree):
        if isinstance(part, (ast.FunctionDef, ast.Lambda)):
            names += [node.arg for node in ast.walk(part) if isinstance(node, ast.arg)]
            stored = [node for node in ast.walk(part) if isinstance(node, ast.Name) and isinstance(node.ctx, ast.Store)]
            names += [node.id for node in stored]
    return names


def top_names(tree):
    names = []
    for part in tree.body:
        if isinstance(part, (ast.FunctionDef, ast.ClassDef)):
            names.append(part.name)
        elif isinstance(part, ast.ImportFrom):
            names += [alias.name for alias in part.names]
        elif isinstance(part, ast.Assign):
            names.append(part.targets[0].id)
    return names


def own_methods(trees):
    classes = [node for tree in trees for node in ast.walk(tree) if isinstance(node, ast.ClassDef)]
    return {part.name for node in classes for part in node.body if isinstance(part, ast.FunctionDef)}


def names_of_pythons_values():
    return {name for value in ("", 0, [], (), {}, set(), b"") for name in dir(value)}


class FormTest(unittest.TestCase):
    def setUp(self):
        self.texts = {path.name: path.read_bytes().decode("ascii") for path in FILES}
        self.trees = {name: ast.parse(text) for name, text in self.texts.items()}

    def nodes(self, kinds):
        found = []
        for name, tree in self.trees.items():
            for node in ast.walk(tree):
                if isinstance(node, kinds):
                    found.append((f"{name}, line {getattr(node, 'lineno', '?')}", node))
        return found

    def test_files(self):
        self.assertIn("__init__.py", self.texts)
        for path in PACKAGE.iterdir():
            if path.name != "__pycache__":
                self.assertRegex(path.name, r"\A[a-z0-9_]+\.py\Z")

    def test_signs_words_and_sizes(self):
        for name, text in self.texts.items():
            with self.subTest(file=name):
                self.assertRegex(text, r"\A[ -~\n]*\Z")
                self.assertIsNone(WORDS.search(text))
                self.assertLessEqual(len(text.splitlines()), 400)
                self.assertLessEqual(max(len(row) for row in text.splitlines()), 120)
        for where, node in self.nodes(ast.FunctionDef):
            self.assertLessEqual(node.end_lineno - node.lineno + 1, 40, where)

    def test_statements_and_expressions(self):
        for where, node in self.nodes(ast.stmt):
            self.assertIsInstance(node, STATEMENTS, where)
            self.assertFalse(getattr(node, "decorator_list", []), where)
            self.assertFalse(getattr(node, "finalbody", []), where)
            self.assertLessEqual(len(getattr(node, "targets", [])), 1, where)
            if isinstance(node, (ast.For, ast.While)):
                self.assertFalse(node.orelse, where)
        for where, node in self.nodes(ast.expr):
            self.assertIsInstance(node, EXPRESSIONS, where)
            if isinstance(node, ast.ListComp):
                self.assertEqual(len(node.generators), 1, where)
                self.assertLessEqual(len(node.generators[0].ifs), 1, where)
        for where, node in self.nodes(ast.Constant):
            self.assertIsInstance(node.value, (int, str, type(None)), where)
        for where, node in self.nodes((ast.Div, ast.MatMult)):
            self.fail(where)
        for where, node in self.nodes(ast.arguments):
            self.assertFalse(node.vararg or node.kwarg or node.kwonlyargs or node.posonlyargs, where)

    def test_texts_stand_by_themselves_only_as_a_files_first_row(self):
        for tree in self.trees.values():
            self.assertIsNotNone(ast.get_docstring(tree))
            alone = [node for node in ast.walk(tree) if isinstance(node, ast.Expr)]
            for node in alone:
                self.assertTrue(node == tree.body[0] or isinstance(node.value, ast.Call))

    def test_is_stands_beside_none_and_truths_alone(self):
        for where, node in self.nodes(ast.Compare):
            if any(isinstance(sign, (ast.Is, ast.IsNot)) for sign in node.ops):
                self.assertIsInstance(node.comparators[-1], ast.Constant, where)
                self.assertIn(repr(node.comparators[-1].value), ("None", "True", "False"), where)

    def test_names(self):
        for name, tree in self.trees.items():
            bound = bound_names(tree)
            with self.subTest(file=name):
                for word in bound:
                    self.assertTrue(word in DOUBLE or not word.startswith("_"), word)
                    self.assertNotIn(word, OWN_NAMES)
                read = {node.id for node in ast.walk(tree) if isinstance(node, ast.Name)}
                self.assertEqual(read - set(bound) - OWN_NAMES, set())

    def test_names_have_one_meaning(self):
        for name, tree in self.trees.items():
            top = top_names(tree)
            with self.subTest(file=name):
                self.assertEqual(len(top), len(set(top)))
                self.assertEqual(set(local_names(tree)) & set(top + dir(builtins)), set())

    def test_sets_are_not_kept(self):
        for where, node in self.nodes((ast.Call, ast.Compare)):
            if isinstance(node, ast.Call):
                asks = isinstance(node.func, ast.Name) and node.func.id in ("sorted", "len") and not node.keywords
                parts = node.args if asks else []
            else:
                parts = [node.left] + node.comparators
            for part in parts:
                part.holds_set = True
        for where, node in self.nodes(ast.Call):
            if isinstance(node.func, ast.Name) and node.func.id in ("set", "frozenset"):
                self.assertTrue(getattr(node, "holds_set", False), where)

    def test_no_two_files_draw_from_one_another(self):
        drawn = {}
        for name, tree in self.trees.items():
            rows = [part for part in tree.body if isinstance(part, ast.ImportFrom)]
            drawn[name] = {part.module.partition(".")[2] + ".py" for part in rows}
        self.assertEqual(drawn["__init__.py"], set())
        while drawn:
            ready = [name for name in drawn if not drawn[name] & set(drawn)]
            self.assertTrue(ready, sorted(drawn))
            for name in ready:
                drawn.pop(name)

    def test_methods(self):
        known = METHODS | own_methods(self.trees.values()) | DOUBLE
        for where, node in self.nodes(ast.Call):
            if isinstance(node.func, ast.Attribute):
                self.assertIn(node.func.attr, known, where)

    def test_names_of_own_methods_and_values(self):
        methods = own_methods(self.trees.values()) - DOUBLE
        self.assertEqual(methods & (names_of_pythons_values() - METHODS - {"add", "discard"}), set())
        for where, node in self.nodes(ast.Attribute):
            if isinstance(node.ctx, ast.Store):
                self.assertIsInstance(node.value, ast.Name, where)
                self.assertNotIn(node.attr, methods | names_of_pythons_values(), where)

    def test_classes(self):
        for name, tree in self.trees.items():
            tops = [part for part in tree.body if isinstance(part, ast.ClassDef)]
            self.assertEqual(tops, [part for part in ast.walk(tree) if isinstance(part, ast.ClassDef)], name)
        for where, node in self.nodes(ast.ClassDef):
            self.assertLessEqual(len(node.bases), 1, where)
            self.assertFalse(node.keywords, where)
            for part in node.body:
                self.assertIsInstance(part, (ast.FunctionDef, ast.Pass), where)

    def test_imports_come_from_the_file_that_defines_the_name(self):
        for where, node in self.nodes(ast.ImportFrom):
            self.assertEqual(node.level, 0, where)
            self.assertRegex(node.module, r"\Adaysheet\.[a-z_]+\Z", where)
            source = self.trees[node.module.partition(".")[2] + ".py"]
            defined = [part.name for part in source.body if isinstance(part, (ast.FunctionDef, ast.ClassDef))]
            given = [part.targets[0].id for part in source.body if isinstance(part, ast.Assign)]
            for alias in node.names:
                self.assertIsNone(alias.asname, where)
                self.assertIn(alias.name, defined + given, where)


if __name__ == "__main__":
    unittest.main()
