"""The form of the package's files, as far as a walk through them can see it."""

import ast
import builtins
import pathlib
import re
import unittest

PACKAGE = pathlib.Path(__file__).resolve().parent.parent / "icecuts"
FILES = sorted(path for path in PACKAGE.rglob("*") if "__pycache__" not in path.parts)

STATEMENTS = (ast.Assign, ast.AugAssign, ast.If, ast.While, ast.For, ast.Return, ast.Break, ast.Continue, ast.Pass,
              ast.Raise, ast.Try, ast.Expr, ast.FunctionDef, ast.ClassDef, ast.ImportFrom)
EXPRESSIONS = (ast.BoolOp, ast.BinOp, ast.UnaryOp, ast.Lambda, ast.IfExp, ast.Dict, ast.ListComp, ast.Compare,
               ast.Call, ast.FormattedValue, ast.JoinedStr, ast.Constant, ast.Attribute, ast.Subscript, ast.Name,
               ast.List, ast.Tuple, ast.Slice)
OWN_NAMES = set("""len range enumerate zip min max sum abs sorted reversed int str bool list tuple dict set frozenset
    isinstance ord repr any all divmod Exception ValueError TypeError KeyError IndexError LookupError
    ZeroDivisionError ArithmeticError OverflowError RuntimeError NotImplementedError AttributeError
    StopIteration""".split())
METHODS = set("""append clear copy count endswith extend find get index insert isalnum isalpha isdigit islower isspace
    isupper items join keys ljust lower lstrip partition pop remove replace reverse rfind rjust rpartition rsplit
    rstrip setdefault split splitlines startswith strip update upper values zfill bit_length""".split())
UNUSED_WORDS = re.compile(r"\b(type|typing|typing_extensions|enum|Enum|IntEnum|StrEnum|Flag|IntFlag|Generic|Protocol|"
                          r"ABC|ABCMeta|namedtuple|NamedTuple|TypedDict|TYPE_CHECKING|abstractmethod)\b"
                          r"|dataclass|overload|contextmanager")
UNUSED_NAMES = set("""register mro elements open input version_info with_traceback add_note attrgetter breakpoint
    builtins compile copyright credits delattr dir eval exec exit gc getattr globals hasattr help id importlib license
    locals methodcaller os quit setattr super type vars sys format format_map""".split())
WALKED = {"range", "enumerate", "zip", "reversed"}
WALKERS = {"list", "tuple", "dict", "sorted", "sum", "any", "all", "enumerate", "zip"}


def trees():
    return [(path, ast.parse(path.read_text())) for path in FILES]


def nodes(kind):
    return [(path.name, node) for path, tree in trees() for node in ast.walk(tree) if isinstance(node, kind)]


class FileTest(unittest.TestCase):
    def test_plain_files_alone(self):
        self.assertIn("bench.py", [path.name for path in FILES])
        for path in FILES:
            self.assertEqual(path.parent, PACKAGE)
            self.assertRegex(path.name, r"^(__init__|[a-z][a-z0-9_]*)\.py$")
            self.assertNotIn(path.stem, dir(builtins))

    def test_signs_and_sizes(self):
        for path in FILES:
            text = path.read_bytes().decode("ascii")
            self.assertRegex(text, r"\A[ -~\n]*\Z")
            lines = text.split("\n")
            self.assertLessEqual(len(lines), 400)
            self.assertLessEqual(max(len(line) for line in lines), 120)
            self.assertIsNone(UNUSED_WORDS.search(text))
        for name, node in nodes(ast.FunctionDef):
            self.assertLessEqual(node.end_lineno - node.lineno + 1, 40, (name, node.name))

    def test_imports(self):
        drawn = {}
        for path, tree in trees():
            drawn[path.stem] = []
            for node in tree.body:
                if isinstance(node, ast.ImportFrom):
                    self.assertEqual(node.level, 0)
                    self.assertRegex(node.module, r"^icecuts\.[a-z_]+$")
                    drawn[path.stem].append(node.module.split(".")[1])
                    source = ast.parse((PACKAGE / (node.module.split(".")[1] + ".py")).read_text())
                    defined = [made.name for made in source.body if isinstance(made, (ast.FunctionDef, ast.ClassDef))]
                    defined += [made.targets[0].id for made in source.body if isinstance(made, ast.Assign)]
                    for alias in node.names:
                        self.assertIn(alias.name, defined)
                        self.assertIsNone(alias.asname)
        self.assertEqual(drawn["__init__"], [])
        while drawn:
            free = [name for name in drawn if not [other for other in drawn[name] if other in drawn]]
            self.assertTrue(free, f"files draw from one another: {drawn}")
            for name in free:
                drawn.pop(name)

    def test_top_of_a_file(self):
        for path, tree in trees():
            functions, bound = [], []
            self.assertTrue(ast.get_docstring(tree), path)
            for node in tree.body[1:]:
                self.assertIsInstance(node, (ast.ImportFrom, ast.FunctionDef, ast.ClassDef, ast.Assign))
                if isinstance(node, ast.FunctionDef):
                    functions.append(node.name)
                if isinstance(node, ast.Assign):
                    self.assert_plain(node.value, functions)
                    bound.append(node.targets[0].id)
                elif isinstance(node, ast.ImportFrom):
                    bound += [alias.name for alias in node.names]
                else:
                    bound.append(node.name)
            self.assertEqual(len(bound), len(set(bound)), path)

    def assert_plain(self, value, functions):
        for node in ast.walk(value):
            if isinstance(node, ast.Name):
                self.assertIn(node.id, functions)
            else:
                self.assertIsInstance(node, (ast.Constant, ast.UnaryOp, ast.USub, ast.Tuple, ast.List, ast.Dict,
                                             ast.Load))
        inner = list(ast.walk(value))[1:]
        self.assertFalse([node for node in inner if isinstance(node, (ast.List, ast.Dict))])


class CodeTest(unittest.TestCase):
    def test_kinds_of_statements_and_expressions(self):
        for name, node in nodes(ast.stmt):
            self.assertIsInstance(node, STATEMENTS, (name, node.lineno))
            if isinstance(node, ast.Assign):
                self.assertEqual(len(node.targets), 1)
                self.assertNotIsInstance(node.targets[0], (ast.Tuple, ast.List), (name, node.lineno))
            if isinstance(node, (ast.For, ast.While)):
                self.assertEqual(node.orelse, [])
            if isinstance(node, ast.Try):
                self.assertEqual(node.finalbody, [])
            if isinstance(node, ast.Expr):
                self.assertIsInstance(node.value, (ast.Call, ast.Constant))
        for name, node in nodes(ast.expr):
            self.assertIsInstance(node, EXPRESSIONS, (name, node.lineno))

    def test_values(self):
        for name, node in nodes(ast.Constant):
            self.assertIn(node.value.__class__, (int, str, bool, None.__class__), (name, node.lineno))
            if isinstance(node.value, str):
                self.assertNotIn("%", node.value)
        for name, node in nodes(ast.BinOp):
            self.assertNotIsInstance(node.op, (ast.Div, ast.MatMult))
            if isinstance(node.op, ast.Pow):
                self.assertIsInstance(node.right, ast.Constant)
        for name, node in nodes(ast.ListComp):
            self.assertEqual(len(node.generators), 1)
            self.assertLessEqual(len(node.generators[0].ifs), 1)
        for name, node in nodes(ast.FormattedValue):
            self.assertIsInstance(node.value, ast.Name)
            self.assertIsNone(node.format_spec)
        for name, node in nodes(ast.Compare):
            for sign, side in zip(node.ops, node.comparators):
                if isinstance(sign, (ast.Is, ast.IsNot)):
                    self.assertIn(side.value, (None, True, False))

    def test_functions_and_classes(self):
        for name, node in nodes(ast.FunctionDef):
            given = node.args
            self.assertFalse(node.decorator_list or given.vararg or given.kwarg or given.kwonlyargs
                             or given.posonlyargs or node.returns)
            self.assertFalse([arg for arg in given.args if arg.annotation])
        for name, node in nodes(ast.ClassDef):
            self.assertFalse(node.decorator_list or node.keywords)
            self.assertLessEqual(len(node.bases), 1)
            self.assertFalse([inner for inner in node.body if not isinstance(inner, ast.FunctionDef)])

    def test_names(self):
        for path, tree in trees():
            top = [node.name for node in tree.body if isinstance(node, ast.ClassDef)]
            for node in tree.body:
                if isinstance(node, ast.ImportFrom):
                    top += [alias.name for alias in node.names]
            for node in ast.walk(tree):
                if isinstance(node, ast.Name):
                    self.assert_name(path, node.id)
                    if isinstance(node.ctx, ast.Store):
                        self.assert_local(path, node.id, top)
                    elif node.id in dir(builtins):
                        self.assertIn(node.id, OWN_NAMES, path)
                if isinstance(node, ast.arg):
                    self.assert_name(path, node.arg)
                    self.assert_local(path, node.arg, top)
                if isinstance(node, ast.Attribute):
                    self.assert_name(path, node.attr)
                if isinstance(node, ast.FunctionDef) and node.name != "__init__":
                    self.assert_name(path, node.name)

    def assert_name(self, path, name):
        self.assertRegex(name, r"^[A-Za-z][A-Za-z0-9_]*$", path)
        self.assertNotIn(name, UNUSED_NAMES, path)

    def assert_local(self, path, name, top):
        self.assertNotIn(name, dir(builtins), path)
        self.assertNotIn(name, top, path)

    def test_methods_and_values(self):
        own = set(dir(str) + dir(int) + dir(list) + dir(dict) + dir(set) + dir(bytes))
        methods, stored = set(), set()
        for name, node in nodes(ast.ClassDef):
            methods |= {inner.name for inner in node.body if inner.name != "__init__"}
        for name, node in nodes(ast.Attribute):
            if isinstance(node.ctx, ast.Store):
                stored.add(node.attr)
        for name, node in nodes(ast.Call):
            if isinstance(node.func, ast.Attribute):
                self.assertIn(node.func.attr, METHODS | methods, (name, node.lineno))
        self.assertFalse(methods & stored)
        self.assertFalse(stored & own)

    def test_walked_at_once(self):
        for path, tree in trees():
            walked = []
            for node in ast.walk(tree):
                if isinstance(node, (ast.For, ast.comprehension)):
                    walked.append(node.iter)
                if isinstance(node, ast.Call) and isinstance(node.func, ast.Name) and node.func.id in WALKERS:
                    walked += node.args[:1]
            for node in ast.walk(tree):
                if isinstance(node, ast.Call) and isinstance(node.func, ast.Name) and node.func.id in WALKED:
                    self.assertIn(node, walked, (path, node.lineno))


if __name__ == "__main__":
    unittest.main()
