"""The package keeps to the part of Python that it is written in, as far as a walk over its files can tell."""

import ast
import builtins
import pathlib
import re
import unittest

PACKAGE = pathlib.Path(__file__).resolve().parent.parent / "tonnebook"

BUILT_IN = (
    "len range enumerate zip min max sum abs sorted reversed int str bool list tuple dict set frozenset isinstance ord "
    "repr any all divmod Exception ValueError TypeError KeyError IndexError LookupError ZeroDivisionError "
    "ArithmeticError OverflowError RuntimeError NotImplementedError AttributeError StopIteration"
).split()
METHODS = (
    "append clear copy count endswith extend find get index insert isalnum isalpha isdigit islower isspace isupper "
    "items join keys ljust lower lstrip partition pop remove replace reverse rfind rjust rpartition rsplit rstrip "
    "setdefault split splitlines startswith strip update upper values zfill bit_length"
).split()
VALUES = "count index title find get join lower upper split strip copy add".split()
KEYWORDS = {"sorted": ("key", "reverse"), "min": ("key", "default"), "max": ("key", "default"),
            "sum": ("start",), "enumerate": ("start",), "zip": ("strict",)}
NOWHERE = "register mro elements open input version_info with_traceback add_note format format_map".split()
NO_NAMES = (
    "attrgetter breakpoint builtins compile copyright credits delattr dir eval exec exit gc getattr globals hasattr "
    "help id importlib license locals methodcaller os quit setattr super type vars sys"
).split()
NO_WORDS = (
    "type typing typing_extensions enum Enum IntEnum StrEnum Flag IntFlag Generic Protocol ABC ABCMeta namedtuple "
    "NamedTuple TypedDict TYPE_CHECKING abstractmethod"
).split()
NO_PARTS = ("dataclass", "overload", "contextmanager")
NO_FILES = "test tests testing site conftest sitecustomize usercustomize".split() + NO_WORDS + dir(builtins)
WALKED = ("zip", "enumerate", "reversed", "range")

NODES = (
    ast.Module, ast.ImportFrom, ast.alias, ast.FunctionDef, ast.arguments, ast.arg, ast.ClassDef, ast.Assign,
    ast.AugAssign, ast.If, ast.While, ast.For, ast.Return, ast.Break, ast.Continue, ast.Pass, ast.Raise, ast.Try,
    ast.ExceptHandler, ast.Expr, ast.Call, ast.keyword, ast.Attribute, ast.Subscript, ast.Slice, ast.Name,
    ast.Constant, ast.List, ast.Tuple, ast.Dict, ast.BinOp, ast.UnaryOp, ast.BoolOp, ast.Compare, ast.IfExp,
    ast.ListComp, ast.comprehension, ast.Lambda, ast.JoinedStr, ast.FormattedValue,
    ast.expr_context, ast.operator, ast.unaryop, ast.boolop, ast.cmpop,
)
OWN_TO_PYTHON = {name for value in ("", 0, [], {}, set(), b"") for name in dir(value)}


class LanguageTest(unittest.TestCase):
    @classmethod
    def setUpClass(cls):
        cls.files = {path.stem: path for path in sorted(PACKAGE.iterdir()) if path.suffix == ".py"}
        cls.texts = {stem: path.read_text(encoding="utf-8") for stem, path in cls.files.items()}
        cls.trees = {stem: ast.parse(text) for stem, text in cls.texts.items()}

    def nodes(self, *kinds):
        for stem, tree in self.trees.items():
            for node in ast.walk(tree):
                if isinstance(node, kinds):
                    yield "%s:%d" % (stem, getattr(node, "lineno", 0)), node

    def tops(self, stem):
        """The names that a file's top binds, one for each time."""
        found = []
        for node in self.trees[stem].body:
            if isinstance(node, ast.ImportFrom):
                found.extend(alias.asname or alias.name for alias in node.names)
            elif isinstance(node, (ast.FunctionDef, ast.ClassDef)):
                found.append(node.name)
            elif isinstance(node, ast.Assign):
                found.extend(target.id for target in node.targets)
        return found

    def test_files(self):
        self.assertIn("__init__", self.files)
        for path in PACKAGE.iterdir():
            if path.name == "__pycache__":
                continue
            self.assertRegex(path.name, r"^([a-z][a-z0-9_]*|__init__|__main__)\.py$")
            self.assertNotIn(path.stem, NO_FILES)
            self.assertFalse(path.stem.startswith("test_"))

    def test_signs_and_sizes(self):
        for stem, text in self.texts.items():
            self.assertEqual(re.findall("[^ -~\n]", text), [], stem)
            lines = text.split("\n")
            self.assertLessEqual(len(lines), 400, stem)
            self.assertLessEqual(max(len(line) for line in lines), 120, stem)
        for where, node in self.nodes(ast.FunctionDef):
            self.assertLessEqual(node.end_lineno - node.lineno + 1, 40, where)

    def test_words(self):
        for stem, text in self.texts.items():
            words = re.findall("[A-Za-z0-9_]+", text)
            self.assertEqual([word for word in words if word in NO_WORDS], [], stem)
            self.assertEqual([part for part in NO_PARTS if part in text], [], stem)

    def test_imports(self):
        drawn = {}
        for stem, tree in self.trees.items():
            imports = [node for node in ast.walk(tree) if isinstance(node, ast.ImportFrom)]
            self.assertTrue(all(node in tree.body and node.level == 0 for node in imports), stem)
            drawn[stem] = [node.module.partition(".")[2] for node in imports]
            for node in imports:
                self.assertTrue(node.module.startswith("tonnebook."), stem)
                source = self.trees[node.module.partition(".")[2]]
                defined = [n.name for n in source.body if isinstance(n, (ast.FunctionDef, ast.ClassDef))]
                defined += [t.id for n in source.body if isinstance(n, ast.Assign) for t in n.targets]
                for alias in node.names:
                    self.assertIn(alias.name, defined, stem)
                    self.assertIsNone(alias.asname, stem)
        while drawn:
            free = [stem for stem, sources in drawn.items() if not [source for source in sources if source in drawn]]
            self.assertNotEqual(free, [], "files that draw from one another: %s" % sorted(drawn))
            drawn = {stem: sources for stem, sources in drawn.items() if stem not in free}

    def test_tops(self):
        for stem, tree in self.trees.items():
            self.assertIsNotNone(ast.get_docstring(tree), stem)
            names = self.tops(stem)
            self.assertEqual(len(names), len(set(names)), stem)
            for node in tree.body[1:]:
                self.assertIsInstance(node, (ast.ImportFrom, ast.FunctionDef, ast.ClassDef, ast.Assign), stem)
                if not isinstance(node, ast.Assign):
                    continue
                for part in ast.walk(node.value):
                    plain = (ast.Constant, ast.List, ast.Tuple, ast.Dict, ast.Name, ast.UnaryOp, ast.USub, ast.Load)
                    self.assertIsInstance(part, plain, stem)
                    if isinstance(part, (ast.List, ast.Dict)):
                        self.assertIs(part, node.value, stem)

    def test_statements_and_expressions(self):
        for where, node in self.nodes(ast.AST):
            self.assertIsInstance(node, NODES, where)
            if isinstance(node, ast.Assign):
                self.assertEqual(len(node.targets), 1, where)
                self.assertNotIsInstance(node.targets[0], (ast.Tuple, ast.List), where)
            if isinstance(node, (ast.For, ast.While)):
                self.assertEqual(node.orelse, [], where)
            if isinstance(node, ast.Try):
                self.assertEqual(node.finalbody, [], where)
            if isinstance(node, ast.ListComp):
                self.assertEqual(len(node.generators), 1, where)
                self.assertLessEqual(len(node.generators[0].ifs), 1, where)
            if isinstance(node, ast.BinOp):
                self.assertNotIsInstance(node.op, (ast.Div, ast.MatMult), where)
            if isinstance(node, ast.Constant):
                self.assertNotIsInstance(node.value, (float, complex, bytes), where)
                self.assertFalse(isinstance(node.value, str) and "%" in node.value, where)
            if isinstance(node, ast.Expr):
                self.assertIsInstance(node.value, (ast.Call, ast.Constant), where)
            if isinstance(node, ast.Compare) and [op for op in node.ops if isinstance(op, (ast.Is, ast.IsNot))]:
                self.assertIsInstance(node.comparators[0], ast.Constant, where)

    def test_functions_and_classes(self):
        for where, node in self.nodes(ast.FunctionDef, ast.ClassDef):
            self.assertEqual(node.decorator_list, [], where)
            if isinstance(node, ast.FunctionDef):
                given = node.args
                self.assertEqual([given.vararg, given.kwarg, given.kwonlyargs, given.posonlyargs], [None, None, [], []])
                self.assertEqual([arg for arg in given.args if arg.annotation], [], where)
                self.assertIsNone(node.returns, where)
            else:
                self.assertLessEqual(len(node.bases), 1, where)
                for part in node.body:
                    plain = isinstance(part, ast.Expr) and isinstance(part.value, ast.Constant)
                    self.assertTrue(plain or isinstance(part, ast.FunctionDef), where)

    def test_names(self):
        for stem, tree in self.trees.items():
            kept = self.tops(stem)
            for node in ast.walk(tree):
                where = "%s:%d" % (stem, getattr(node, "lineno", 0))
                if isinstance(node, ast.Name):
                    self.assertNotIn(node.id, NOWHERE + NO_NAMES, where)
                    self.assertRegex(node.id, "^[A-Za-z]", where)
                    if isinstance(node.ctx, ast.Load) and node.id in dir(builtins):
                        self.assertIn(node.id, BUILT_IN, where)
                bound = node.arg if isinstance(node, ast.arg) else None
                if isinstance(node, ast.Name) and isinstance(node.ctx, ast.Store) and node.col_offset > 0:
                    bound = node.id
                if bound is not None:
                    self.assertNotIn(bound, dir(builtins), where)
                    self.assertNotIn(bound, kept, where)

    def test_calls(self):
        for where, node in self.nodes(ast.Call):
            if isinstance(node.func, ast.Name) and node.func.id in dir(builtins):
                for keyword in node.keywords:
                    self.assertIn(keyword.arg, KEYWORDS.get(node.func.id, ()), where)
            self.assertFalse([arg for arg in node.args if isinstance(arg, ast.Starred)], where)
        for where, node in self.nodes(ast.Assign, ast.Return):
            value = node.value
            if isinstance(value, ast.Call) and isinstance(value.func, ast.Name):
                self.assertNotIn(value.func.id, WALKED + ("set", "frozenset"), where)

    def test_methods_and_values(self):
        classes = [node for where, node in self.nodes(ast.ClassDef)]
        own = [part.name for node in classes for part in node.body if isinstance(part, ast.FunctionDef)]
        called = {id(node.func) for where, node in self.nodes(ast.Call)}
        for where, node in self.nodes(ast.Attribute):
            self.assertNotIn(node.attr, NOWHERE, where)
            if id(node) in called:
                self.assertIn(node.attr, own + METHODS, where)
            else:
                self.assertNotIn(node.attr, own, where)
                self.assertTrue(node.attr in VALUES or node.attr not in OWN_TO_PYTHON, where)
        for name in own:
            allowed = name in ("__init__", "__eq__", "__repr__", "__str__", "__len__", "add", "discard")
            self.assertTrue(allowed or name in METHODS or name not in OWN_TO_PYTHON, name)

    def test_what_a_top_keeps_is_only_read(self):
        for stem, tree in self.trees.items():
            kept = [node.targets[0].id for node in tree.body
                    if isinstance(node, ast.Assign) and isinstance(node.value, (ast.List, ast.Dict))]
            for node in ast.walk(tree):
                if isinstance(node, ast.Subscript) and isinstance(node.value, ast.Name) and node.value.id in kept:
                    self.assertIsInstance(node.ctx, ast.Load, stem)
                if isinstance(node, ast.Return) and isinstance(node.value, ast.Name):
                    self.assertNotIn(node.value.id, kept, stem)
                if isinstance(node, ast.Attribute) and isinstance(node.value, ast.Name) and node.value.id in kept:
                    self.assertIn(node.attr, ("get", "items", "keys", "values", "index", "count"), stem)


if __name__ == "__main__":
    unittest.main()
