"""The package keeps to the small part of Python that it's written in, as far as a reading of its files can tell."""

import ast
import builtins
import pathlib
import re
import unittest

PACKAGE = pathlib.Path(__file__).resolve().parent.parent / "zonerights"
FILES = sorted(path for path in PACKAGE.rglob("*") if "__pycache__" not in path.parts)

STATEMENTS = (
    ast.FunctionDef, ast.ClassDef, ast.Assign, ast.AugAssign, ast.If, ast.While, ast.For, ast.Return, ast.Break,
    ast.Continue, ast.Pass, ast.Raise, ast.Try, ast.Expr, ast.ImportFrom,
)
EXPRESSIONS = (
    ast.Constant, ast.List, ast.Tuple, ast.Dict, ast.BinOp, ast.UnaryOp, ast.BoolOp, ast.Compare, ast.IfExp, ast.Call,
    ast.Attribute, ast.Subscript, ast.Slice, ast.ListComp, ast.Name, ast.Lambda, ast.JoinedStr, ast.FormattedValue,
)
OWN_NAMES = (
    "len range enumerate zip min max sum abs sorted reversed int str bool list tuple dict set frozenset isinstance ord "
    "repr any all divmod Exception ValueError TypeError KeyError IndexError LookupError ZeroDivisionError "
    "ArithmeticError OverflowError RuntimeError NotImplementedError AttributeError StopIteration"
).split()
METHODS = (
    "append clear copy count endswith extend find get index insert isalnum isalpha isdigit islower isspace isupper "
    "items join keys ljust lower lstrip partition pop remove replace reverse rfind rjust rpartition rsplit rstrip "
    "setdefault split splitlines startswith strip update upper values zfill bit_length"
).split()
CHANGES = "append clear extend insert pop remove reverse setdefault update".split()
NOT_USED = "register mro elements open input version_info with_traceback add_note".split()
WORDS = (
    r"\b(type|typing|typing_extensions|enum|Enum|IntEnum|StrEnum|Flag|IntFlag|Generic|Protocol|ABC|ABCMeta|namedtuple"
    r"|NamedTuple|TypedDict|TYPE_CHECKING|abstractmethod)\b|dataclass|overload|contextmanager"
)


def bound_at_top(tree):
    names = []
    for node in tree.body:
        if isinstance(node, ast.Assign):
            names += [target.id for target in node.targets]
        elif isinstance(node, (ast.FunctionDef, ast.ClassDef)):
            names.append(node.name)
        elif isinstance(node, ast.ImportFrom):
            names += [alias.asname or alias.name for alias in node.names]
    return names


def locals_of(tree):
    stored = [node.id for node in ast.walk(tree) if isinstance(node, ast.Name) and isinstance(node.ctx, ast.Store)]
    return stored + [node.arg for node in ast.walk(tree) if isinstance(node, ast.arg)]


class Language(unittest.TestCase):
    @classmethod
    def setUpClass(cls):
        cls.texts = {path: path.read_text(encoding="utf-8") for path in FILES}
        cls.trees = {path: ast.parse(text) for path, text in cls.texts.items()}

    def nodes(self, *kinds):
        for path, tree in self.trees.items():
            for node in ast.walk(tree):
                if isinstance(node, kinds):
                    yield f"{path.name}:{getattr(node, 'lineno', 0)}", node

    def test_files(self):
        self.assertIn(PACKAGE / "__init__.py", FILES)
        for path in FILES:
            self.assertRegex(path.name, r"^([a-z][a-z0-9_]*|__init__)\.py$")
            self.assertNotIn(path.stem, dir(builtins))
            self.assertNotRegex(path.stem, "^(test.*|site|conftest|sitecustomize|usercustomize)$")

    def test_signs_and_sizes(self):
        for path, text in self.texts.items():
            self.assertRegex(text, r"\A[ -~\n]*\Z", path)
            self.assertLessEqual(text.count("\n"), 400, path)
            self.assertLessEqual(max(len(row) for row in text.split("\n")), 120, path)
            self.assertIsNone(re.search(WORDS, text), path)
        for where, node in self.nodes(ast.FunctionDef):
            self.assertLessEqual(node.end_lineno - node.lineno + 1, 40, where)

    def test_imports(self):
        drawn = {}
        for path, tree in self.trees.items():
            drawn["zonerights." + path.stem] = [node.module for node in tree.body if isinstance(node, ast.ImportFrom)]
        for where, node in self.nodes(ast.Import, ast.ImportFrom):
            self.assertIsInstance(node, ast.ImportFrom, where)
            self.assertEqual(node.level, 0, where)
            source = self.trees[PACKAGE / (node.module.split(".")[1] + ".py")]
            for alias in node.names:
                self.assertIn(alias.name, bound_at_top(source), where)
                self.assertIsNone(alias.asname, where)
        done = []
        while len(done) < len(drawn):
            ready = [name for name in drawn if name not in done and all(part in done for part in drawn[name])]
            self.assertTrue(ready, "files draw from one another")
            done += ready

    def test_the_top_of_a_module(self):
        for path, tree in self.trees.items():
            self.assertIsNotNone(ast.get_docstring(tree), path)
            names = bound_at_top(tree)
            self.assertEqual(len(names), len(set(names)), path)
            for node in tree.body[1:]:
                self.assertIsInstance(node, (ast.ImportFrom, ast.FunctionDef, ast.ClassDef, ast.Assign), path)
                if isinstance(node, ast.Assign):
                    ast.literal_eval(node.value)

    def test_statements_and_expressions(self):
        docstrings = [tree.body[0] for tree in self.trees.values()]
        for where, node in self.nodes(ast.stmt):
            self.assertIsInstance(node, STATEMENTS, where)
            if isinstance(node, ast.Expr) and node not in docstrings:
                self.assertIsInstance(node.value, ast.Call, where)
            if isinstance(node, (ast.For, ast.While)):
                self.assertEqual(node.orelse, [], where)
            if isinstance(node, ast.Assign):
                self.assertEqual(len(node.targets), 1, where)
                self.assertNotIsInstance(node.targets[0], (ast.Tuple, ast.List), where)
            if isinstance(node, (ast.FunctionDef, ast.ClassDef)):
                self.assertEqual(node.decorator_list, [], where)
        for where, node in self.nodes(ast.expr):
            self.assertIsInstance(node, EXPRESSIONS, where)
            if isinstance(node, ast.Constant):
                self.assertNotIsInstance(node.value, (float, bytes, complex), where)
                self.assertFalse(isinstance(node.value, str) and "%" in node.value, where)
            if isinstance(node, ast.BinOp):
                self.assertNotIsInstance(node.op, (ast.Div, ast.Pow, ast.MatMult), where)
            if isinstance(node, ast.ListComp):
                self.assertEqual(len(node.generators), 1, where)
                self.assertLessEqual(len(node.generators[0].ifs), 1, where)
        for where, node in self.nodes(ast.Compare):
            for operator, right in zip(node.ops, node.comparators):
                if isinstance(operator, (ast.Is, ast.IsNot)):
                    self.assertIn(getattr(right, "value", "none of these"), (None, True, False), where)

    def test_names(self):
        for path, tree in self.trees.items():
            imported = [alias.name for node in tree.body if isinstance(node, ast.ImportFrom) for alias in node.names]
            classes = [node.name for node in tree.body if isinstance(node, ast.ClassDef)]
            for name in locals_of(tree) + bound_at_top(tree):
                self.assertRegex(name, "^[A-Za-z][A-Za-z0-9_]*$", path)
                self.assertFalse(hasattr(builtins, name), (path, name))
                self.assertNotIn(name, NOT_USED, path)
            for name in locals_of(tree):
                self.assertNotIn(name, imported + classes, path)
            known = locals_of(tree) + bound_at_top(tree) + OWN_NAMES
            for node in ast.walk(tree):
                if isinstance(node, ast.Name):
                    self.assertIn(node.id, known, path)
        for where, node in self.nodes(ast.FunctionDef, ast.arg):
            self.assertIsNone(getattr(node, "returns", None), where)
            self.assertIsNone(getattr(node, "annotation", None), where)

    def test_methods_and_values(self):
        methods = [node.name for where, each in self.nodes(ast.ClassDef) for node in each.body
                   if isinstance(node, ast.FunctionDef)]
        stored = [node.attr for where, node in self.nodes(ast.Attribute) if isinstance(node.ctx, ast.Store)]
        called = [node.func for where, node in self.nodes(ast.Call) if isinstance(node.func, ast.Attribute)]
        self.assertEqual(set(methods) & set(stored), set())
        taken = {name for kind in (str, int, list, dict, set, bytes, tuple) for name in dir(kind)} - {"__init__"}
        self.assertEqual(set(methods + stored) & taken, set())
        self.assertEqual(set(methods + stored) & set(NOT_USED), set())
        for node in called:
            self.assertIn(node.attr, METHODS + methods)
        for where, node in self.nodes(ast.Attribute):
            if node not in called:
                self.assertIn(node.attr, stored, where)

    def test_nothing_is_kept_at_the_top(self):
        """Lists and dicts of a file's top are neither changed nor handed on."""
        for path, tree in self.trees.items():
            held = [node.targets[0].id for node in tree.body
                    if isinstance(node, ast.Assign) and isinstance(node.value, (ast.List, ast.Dict))]
            allowed = set()
            for node in ast.walk(tree):
                if isinstance(node, ast.Subscript) and isinstance(node.ctx, ast.Load):
                    allowed.add(node.value)
                elif isinstance(node, ast.Attribute) and node.attr not in CHANGES:
                    allowed.add(node.value)
            for node in ast.walk(tree):
                if isinstance(node, ast.Name) and isinstance(node.ctx, ast.Load) and node.id in held:
                    self.assertIn(node, allowed, path)


if __name__ == "__main__":
    unittest.main()
