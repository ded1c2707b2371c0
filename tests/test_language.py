"""The package's files keep to LANGUAGE.md, as far as reading them can tell."""

import ast
import builtins
import pathlib
import re
import unittest

FOLDER = pathlib.Path(__file__).resolve().parent.parent / "placechange"

STATEMENTS = (
    ast.FunctionDef, ast.ClassDef, ast.Return, ast.Assign, ast.AugAssign, ast.For, ast.While, ast.If, ast.Raise,
    ast.Try, ast.ImportFrom, ast.Expr, ast.Pass, ast.Break, ast.Continue,
)
EXPRESSIONS = (
    ast.BoolOp, ast.BinOp, ast.UnaryOp, ast.Lambda, ast.IfExp, ast.Dict, ast.ListComp, ast.Compare, ast.Call,
    ast.JoinedStr, ast.FormattedValue, ast.Constant, ast.Attribute, ast.Subscript, ast.Name, ast.List, ast.Tuple,
    ast.Slice,
)
OWN_NAMES = (
    "len range enumerate zip min max sum abs sorted reversed int str bool list tuple dict set frozenset isinstance ord "
    "repr any all divmod Exception ValueError TypeError KeyError IndexError LookupError ZeroDivisionError "
    "ArithmeticError OverflowError RuntimeError NotImplementedError StopIteration"
).split()
METHODS = (
    "append clear copy count endswith extend find get index insert isalnum isalpha isdigit islower isspace isupper "
    "items join keys ljust lower lstrip partition pop remove replace reverse rfind rjust rpartition rsplit rstrip "
    "setdefault split splitlines startswith strip update upper values zfill bit_length"
).split()
BARRED_WORDS = (
    "type typing typing_extensions enum Enum IntEnum StrEnum Flag IntFlag Generic Protocol ABC ABCMeta namedtuple "
    "NamedTuple TypedDict TYPE_CHECKING abstractmethod register mro elements open input version_info with_traceback "
    "add_note"
).split()


def bound_names(tree):
    names = []
    for node in ast.walk(tree):
        if isinstance(node, (ast.FunctionDef, ast.ClassDef)):
            names.append(node.name)
        elif isinstance(node, ast.arg):
            names.append(node.arg)
        elif isinstance(node, ast.Name) and isinstance(node.ctx, ast.Store):
            names.append(node.id)
        elif isinstance(node, ast.Attribute):
            names.append(node.attr)
    return names


class KeepsToTheLanguage(unittest.TestCase):
    def setUp(self):
        self.texts = {path.name: path.read_text("ascii") for path in sorted(FOLDER.glob("*.py"))}
        self.trees = {name: ast.parse(text) for name, text in self.texts.items()}
        for name in ("errors", "orders", "moves", "ways", "columns", "texts"):
            self.assertIn(name + ".py", self.trees)

    def nodes(self, kind):
        return [(name, node) for name, tree in self.trees.items() for node in ast.walk(tree) if isinstance(node, kind)]

    def test_files(self):
        for path in FOLDER.iterdir():
            if path.name != "__pycache__":
                self.assertRegex(path.name, r"^([a-z][a-z0-9_]*|__init__|__main__)\.py$")
        self.assertIn("__init__.py", self.texts)

    def test_signs_and_sizes(self):
        for name, text in self.texts.items():
            self.assertRegex(text, r"\A[ -~\n]*\Z", name)
            self.assertLessEqual(len(text.splitlines()), 400, name)
            self.assertLessEqual(max(len(line) for line in text.splitlines()), 120, name)
        for name, node in self.nodes(ast.FunctionDef):
            self.assertLessEqual(node.end_lineno - node.lineno + 1, 40, (name, node.name))

    def test_barred_words(self):
        for name, text in self.texts.items():
            self.assertEqual([word for word in re.findall(r"\w+", text) if word in BARRED_WORDS], [], name)

    def test_imports(self):
        drawn = {name: set() for name in self.trees}
        for name, node in self.nodes((ast.Import, ast.ImportFrom)):
            self.assertIsInstance(node, ast.ImportFrom, name)
            self.assertEqual((node.level, node.module.split(".")[0]), (0, "placechange"), name)
            source = node.module.split(".")[1] + ".py"
            drawn[name].add(source)
            defined = [made.name for made in self.trees[source].body if hasattr(made, "name")]
            defined += [row.targets[0].id for row in self.trees[source].body if isinstance(row, ast.Assign)]
            for alias in node.names:
                self.assertIn(alias.name, defined, name)
        free = set()
        while len(free) < len(drawn):
            found = {name for name in drawn if drawn[name] <= free}
            self.assertGreater(len(found), len(free), "files that draw from one another")
            free = found

    def test_statements_and_expressions(self):
        for name, node in self.nodes(ast.stmt):
            self.assertIsInstance(node, STATEMENTS, (name, node.lineno))
            self.assertFalse(getattr(node, "decorator_list", []), (name, node.lineno))
            if isinstance(node, ast.Assign):
                self.assertEqual(len(node.targets), 1, (name, node.lineno))
                self.assertNotIsInstance(node.targets[0], (ast.Tuple, ast.List), (name, node.lineno))
            if isinstance(node, (ast.For, ast.While)):
                self.assertEqual(node.orelse, [], (name, node.lineno))
            if isinstance(node, ast.Expr) and not isinstance(node.value, ast.Call):
                self.assertIs(node, self.trees[name].body[0], (name, node.lineno))
        for name, node in self.nodes(ast.expr):
            self.assertIsInstance(node, EXPRESSIONS, (name, node.lineno))
        for name, node in self.nodes(ast.ListComp):
            self.assertEqual(len(node.generators), 1, (name, node.lineno))
            self.assertLessEqual(len(node.generators[0].ifs), 1, (name, node.lineno))
        for name, node in self.nodes((ast.Div, ast.Pow)):
            self.fail(name)
        for name, node in self.nodes(ast.Constant):
            self.assertIn(type(node.value), (int, str, bool, type(None)), (name, node.lineno))

    def test_names(self):
        own = set(dir(builtins))
        for name, tree in self.trees.items():
            for word in bound_names(tree):
                if word != "__init__":
                    self.assertRegex(word, r"^[A-Za-z][A-Za-z0-9_]*$", name)
            for node in ast.walk(tree):
                if isinstance(node, ast.Name) and node.id in own:
                    self.assertIn(node.id, OWN_NAMES, (name, node.lineno))
                    self.assertIsInstance(node.ctx, ast.Load, (name, node.lineno))
                if isinstance(node, ast.arg):
                    self.assertNotIn(node.arg, own, (name, node.lineno))

    def test_no_local_is_called_like_an_import(self):
        for name, tree in self.trees.items():
            drawn = [alias.name for row in tree.body if isinstance(row, ast.ImportFrom) for alias in row.names]
            self.assertFalse(set(drawn) & set(bound_names(tree)), name)

    def test_no_local_is_called_like_a_class(self):
        for name, tree in self.trees.items():
            classes = {row.name for row in tree.body if isinstance(row, ast.ClassDef)}
            for node in ast.walk(tree):
                if isinstance(node, ast.Name) and isinstance(node.ctx, ast.Store):
                    self.assertNotIn(node.id, classes, (name, node.lineno))
                if isinstance(node, ast.arg):
                    self.assertNotIn(node.arg, classes, (name, node.lineno))

    def test_each_name_is_bound_once_at_a_files_top(self):
        for name, tree in self.trees.items():
            bound = [row.name for row in tree.body if hasattr(row, "name")]
            bound += [row.targets[0].id for row in tree.body if isinstance(row, ast.Assign)]
            bound += [alias.name for row in tree.body if isinstance(row, ast.ImportFrom) for alias in row.names]
            self.assertEqual(len(set(bound)), len(bound), name)

    def test_values_of_objects(self):
        methods = {method.name for name, node in self.nodes(ast.ClassDef) for method in node.body
                   if isinstance(method, ast.FunctionDef)}
        barred = {word for kind in (str, int, list, tuple, dict, set, bytes, ValueError) for word in dir(kind)}
        for name, node in self.nodes(ast.Attribute):
            if isinstance(node.ctx, ast.Store):
                self.assertNotIn(node.attr, methods, (name, node.lineno))
                self.assertNotIn(node.attr, barred, (name, node.lineno))

    def test_methods(self):
        own = {node.name for name, node in self.nodes(ast.FunctionDef)}
        for name, node in self.nodes(ast.Call):
            if isinstance(node.func, ast.Attribute):
                self.assertIn(node.func.attr, own.union(METHODS), (name, node.lineno))

    def test_is_stands_beside_plain_values_alone(self):
        for name, node in self.nodes(ast.Compare):
            if isinstance(node.ops[0], (ast.Is, ast.IsNot)):
                self.assertIsInstance(node.comparators[0], ast.Constant, (name, node.lineno))
