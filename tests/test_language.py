"""The package keeps to the part of Python that it may use: what of that can be read off its files."""

import ast
import builtins
import re
import unittest
from pathlib import Path

PACKAGE = Path(__file__).resolve().parent.parent / "matefloors"
OWN_NAMES = set("""len range enumerate zip min max sum abs sorted reversed int str bool bytes list tuple dict set
    isinstance ord repr any all divmod Exception ValueError KeyError IndexError LookupError ZeroDivisionError
    ArithmeticError OverflowError RuntimeError NotImplementedError StopIteration""".split())
METHODS = {"__init__", "__eq__", "__repr__", "__str__", "__len__"}
NO_FORMS = (ast.With, ast.Match, ast.Global, ast.Nonlocal, ast.Yield, ast.YieldFrom, ast.AsyncFunctionDef, ast.Await,
            ast.GeneratorExp, ast.NamedExpr, ast.Div, ast.MatMult, ast.Import, ast.TryStar)
NO_WORDS = re.compile(r"\b(type|typing|typing_extensions|enum|Enum|IntEnum|StrEnum|Flag|IntFlag|Generic|Protocol|ABC"
                      r"|ABCMeta|namedtuple|NamedTuple|TypedDict|TYPE_CHECKING|abstractmethod)\b"
                      r"|dataclass|overload|contextmanager")
NO_NAMES = set("""register mro elements open input version_info with_traceback add_note attrgetter breakpoint
    builtins compile copyright credits delattr dir eval exec exit gc getattr globals hasattr help id importlib license
    locals methodcaller os quit setattr super vars sys format format_map print chr""".split())

OWN_METHODS = set("""append clear copy count endswith extend find get index insert isalnum isalpha isdigit islower
    isspace isupper items join keys ljust lower lstrip partition pop remove replace reverse rfind rjust rpartition rsplit
    rstrip setdefault split splitlines startswith strip update upper values zfill bit_length add""".split())


def bound_names(tree):
    """Every name that a file gives a value, defines, takes as a parameter or draws in, with its line."""
    for node in ast.walk(tree):
        if isinstance(node, ast.Name) and isinstance(node.ctx, ast.Store):
            yield node.id, node.lineno
        elif isinstance(node, (ast.FunctionDef, ast.ClassDef)):
            yield node.name, node.lineno
        elif isinstance(node, ast.arg):
            yield node.arg, node.lineno
        elif isinstance(node, ast.alias):
            yield node.asname or node.name, node.lineno
        elif isinstance(node, ast.ExceptHandler) and node.name:
            yield node.name, node.lineno


class LanguageTest(unittest.TestCase):
    def setUp(self):
        self.files = sorted(path for path in PACKAGE.rglob("*") if "__pycache__" not in path.parts and path.is_file())
        self.texts = {path.name: path.read_text(encoding="utf-8") for path in self.files}
        self.trees = {name: ast.parse(text) for name, text in self.texts.items()}

    def walk(self, *kinds):
        for name, tree in self.trees.items():
            for node in ast.walk(tree):
                if isinstance(node, kinds):
                    yield f"{name}:{getattr(node, 'lineno', '?')}", node

    def test_files_and_signs(self):
        self.assertIn("__init__.py", self.texts)
        for path in self.files:
            self.assertEqual(path.parent, PACKAGE)
            self.assertRegex(path.name, r"\A(__init__|[a-z][a-z0-9_]*)\.py\Z")
            rows = self.texts[path.name].split("\n")
            self.assertLessEqual(len(rows), 400)
            for at, row in enumerate(rows, 1):
                where = f"{path.name}:{at}"
                self.assertLessEqual(len(row), 120, where)
                self.assertRegex(row, r"\A[ -~]*\Z", where)
                self.assertIsNone(NO_WORDS.search(row), where)

    def test_forms(self):
        for where, node in self.walk(*NO_FORMS):
            self.fail(f"{where}: {node.__class__.__name__}")
        for where, node in self.walk(ast.For, ast.While):
            self.assertEqual(node.orelse, [], where)
        for where, node in self.walk(ast.Constant):
            self.assertNotIsInstance(node.value, (float, complex), where)
            self.assertNotIn("%", node.value if isinstance(node.value, str) else "", where)
        for where, node in self.walk(ast.BinOp):
            if isinstance(node.op, ast.Pow):
                self.assertTrue(isinstance(node.right, ast.Constant) and 0 <= node.right.value <= 64, where)
        for where, node in self.walk(ast.Compare):
            for sign, other in zip(node.ops, node.comparators):
                if isinstance(sign, (ast.Is, ast.IsNot)):
                    self.assertTrue(isinstance(other, ast.Constant) and other.value in (None, True, False), where)

    def test_tops(self):
        for name, tree in self.trees.items():
            for at, node in enumerate(tree.body):
                docstring = at == 0 and isinstance(node, ast.Expr) and isinstance(node.value, ast.Constant)
                plain = (ast.ImportFrom, ast.FunctionDef, ast.ClassDef, ast.Assign)
                self.assertTrue(docstring or isinstance(node, plain), f"{name}:{node.lineno}")
            tops = [node.name for node in tree.body if isinstance(node, (ast.FunctionDef, ast.ClassDef))]
            tops += [part.name for node in tree.body if isinstance(node, ast.ImportFrom) for part in node.names]
            tops += [node.targets[0].id for node in tree.body if isinstance(node, ast.Assign)]
            self.assertEqual(len(tops), len(set(tops)), name)

    def test_imports(self):
        draws = {}
        for name, tree in self.trees.items():
            draws[name[:-3]] = found = []
            for node in ast.walk(tree):
                if isinstance(node, ast.ImportFrom):
                    self.assertIn(node, tree.body, name)
                    self.assertRegex(node.module, r"\Amatefloors\.[a-z]+\Z", name)
                    self.assertEqual(node.level, 0, name)
                    found.append(node.module.split(".")[1])
                    defined = {bound for bound, line in bound_names(self.trees[found[-1] + ".py"])}
                    for part in node.names:
                        self.assertIn(part.name, defined, name)
        while draws:
            free = [name for name, found in draws.items() if not any(other in draws for other in found)]
            self.assertTrue(free, f"these draw from one another: {sorted(draws)}")
            draws = {name: found for name, found in draws.items() if name not in free}

    def test_functions_and_classes(self):
        for where, node in self.walk(ast.FunctionDef):
            self.assertLessEqual(node.end_lineno - node.lineno + 1, 40, where)
            self.assertEqual(node.decorator_list, [], where)
            self.assertIsNone(node.args.vararg or node.args.kwarg, where)
            self.assertEqual(node.args.posonlyargs, [], where)
        for where, node in self.walk(ast.ClassDef):
            self.assertEqual((node.decorator_list, node.keywords), ([], []), where)
            self.assertLessEqual(len(node.bases), 1, where)

    def test_names(self):
        for name, tree in self.trees.items():
            for bound, line in bound_names(tree):
                where = f"{name}:{line}: {bound}"
                if bound in METHODS:
                    continue
                self.assertRegex(bound, r"\A[A-Za-z][A-Za-z0-9_]*\Z", where)
                self.assertFalse(bound in NO_NAMES or hasattr(builtins, bound), where)
        for where, node in self.walk(ast.Name):
            if hasattr(builtins, node.id):
                self.assertIn(node.id, OWN_NAMES, where)
        for where, node in self.walk(ast.Attribute):
            self.assertFalse(node.attr in NO_NAMES or node.attr.startswith("_"), where)

    def test_methods_and_values(self):
        methods, values = set(), set()
        for where, node in self.walk(ast.ClassDef):
            methods |= {part.name for part in node.body if isinstance(part, ast.FunctionDef)}
            values |= {part.attr for part in ast.walk(node)
                       if isinstance(part, ast.Attribute) and isinstance(part.ctx, ast.Store)}
        self.assertEqual(methods & values, set())
        for where, node in self.walk(ast.Attribute):
            self.assertIn(node.attr, OWN_METHODS | methods | values, where)

    def test_locals_are_not_called_like_imports(self):
        for name, tree in self.trees.items():
            drawn = {part.name for node in tree.body if isinstance(node, ast.ImportFrom) for part in node.names}
            drawn |= {node.name for node in tree.body if isinstance(node, (ast.ClassDef, ast.FunctionDef))}
            for node in ast.walk(tree):
                if isinstance(node, ast.FunctionDef):
                    inner = {bound for bound, line in bound_names(node) if bound != node.name}
                    self.assertEqual(inner & drawn, set(), f"{name}:{node.lineno}")


if __name__ == "__main__":
    unittest.main()
