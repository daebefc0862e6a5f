"""The package keeps to LANGUAGE.md, as far as that can be seen row by row. Each message begins with the rule's number."""

import ast
import builtins
import re
import unittest
from pathlib import Path

PACKAGE = Path(__file__).resolve().parent.parent / "riffles"

ERRORS = set("""Exception ValueError TypeError KeyError IndexError LookupError ZeroDivisionError ArithmeticError
    OverflowError RuntimeError NotImplementedError AttributeError StopIteration""".split())
BUILTINS = ERRORS | set("""len range enumerate zip min max sum abs sorted reversed int str bool list tuple dict set
    frozenset isinstance ord repr any all divmod""".split())
METHODS = set("""append clear copy count endswith extend find get index insert isalnum isalpha isdigit islower isspace
    isupper items join keys ljust lower lstrip partition pop remove replace reverse rfind rjust rpartition rsplit rstrip
    setdefault split splitlines startswith strip update upper values zfill bit_length""".split())
DUNDERS = {"__init__", "__eq__", "__repr__", "__str__", "__len__"}
UNUSED = re.compile(r"\b(type|typing|typing_extensions|enum|Enum|IntEnum|StrEnum|Flag|IntFlag|Generic|Protocol|ABC|ABCMeta"
                    r"|namedtuple|NamedTuple|TypedDict|TYPE_CHECKING|abstractmethod|register|mro|elements|open|input"
                    r"|version_info|with_traceback|add_note)\b|dataclass|overload|contextmanager")
NODES = tuple(getattr(ast, name) for name in """Module Import ImportFrom alias FunctionDef ClassDef arguments arg Assign
    AugAssign If While For Return Break Continue Pass Raise Try ExceptHandler Expr Call keyword Attribute Subscript Slice
    Name Constant List Tuple Dict Set ListComp comprehension BinOp UnaryOp BoolOp Compare IfExp JoinedStr FormattedValue
    Lambda Load Store""".split())
SIGNS = (ast.Add, ast.Sub, ast.Mult, ast.FloorDiv, ast.Mod, ast.Pow, ast.BitAnd, ast.BitOr, ast.BitXor, ast.LShift,
         ast.RShift, ast.Invert, ast.USub, ast.UAdd, ast.Not, ast.And, ast.Or, ast.cmpop)


def sources():
    return {path.stem: path.read_text(encoding="utf-8") for path in sorted(PACKAGE.glob("*.py"))}


def drawn(tree):
    return [node.module for node in tree.body if isinstance(node, ast.ImportFrom)]


class Language(unittest.TestCase):
    def setUp(self):
        self.texts = sources()
        self.trees = {name: ast.parse(text) for name, text in self.texts.items()}

    def nodes(self, *kinds):
        for name, tree in self.trees.items():
            for node in ast.walk(tree):
                if isinstance(node, kinds):
                    yield f"{name}.py:{getattr(node, 'lineno', 0)}", node

    def test_files(self):
        self.assertIn("__init__", self.texts)
        for path in PACKAGE.iterdir():
            if path.name != "__pycache__":
                self.assertRegex(path.name, r"^[a-z0-9_]+\.py$", "L1, L14")
                self.assertNotIn(path.stem, dir(builtins), "L14")

    def test_signs_and_sizes(self):
        for name, text in self.texts.items():
            self.assertRegex(text, r"\A[ -~\n]*\Z", f"L14 {name}")
            self.assertLessEqual(len(text.splitlines()), 400, f"L10 {name}")
            self.assertLessEqual(max(len(row) for row in text.splitlines()), 120, f"L10 {name}")
            self.assertIsNone(UNUSED.search(text), f"L17 {name}")
        for place, node in self.nodes(ast.FunctionDef):
            self.assertLessEqual(node.end_lineno - node.lineno + 1, 40, f"L10 {place}")

    def test_imports(self):
        for place, node in self.nodes(ast.Import):
            self.fail(f"L16 {place}")
        for place, node in self.nodes(ast.ImportFrom):
            self.assertEqual(node.level, 0, f"L2 {place}")
            folder, dot, name = node.module.partition(".")
            self.assertEqual(folder, "riffles", f"L2 {place}")
            self.assertIn(name, self.texts, f"L2 {place}")
            defined = {made.name for made in self.trees[name].body if isinstance(made, (ast.FunctionDef, ast.ClassDef))}
            defined |= {made.targets[0].id for made in self.trees[name].body if isinstance(made, ast.Assign)}
            for alias in node.names:
                self.assertIn(alias.name, defined, f"L16 {place}")

    def test_no_two_files_draw_from_one_another(self):
        left = {f"riffles.{name}": set(drawn(tree)) for name, tree in self.trees.items()}
        while left:
            free = [name for name, needs in left.items() if not needs & set(left)]
            self.assertTrue(free, f"L16 {sorted(left)}")
            left = {name: needs for name, needs in left.items() if name not in free}

    def test_init_binds_nothing(self):
        self.assertLessEqual(len(self.trees["__init__"].body), 1, "L16")

    def test_top_of_a_file(self):
        for name, tree in self.trees.items():
            self.assertIsNotNone(ast.get_docstring(tree), f"L3 {name}")
            bound = []
            for node in tree.body[1:]:
                self.assertIsInstance(node, (ast.ImportFrom, ast.FunctionDef, ast.ClassDef, ast.Assign), f"L3 {name}")
                if isinstance(node, ast.Assign):
                    self.assertNotIsInstance(node.value, (ast.Call, ast.BinOp), f"L3 {name}")
                    bound.append(node.targets[0].id)
                elif isinstance(node, ast.ImportFrom):
                    bound.extend(alias.name for alias in node.names)
                else:
                    bound.append(node.name)
            self.assertEqual(len(bound), len(set(bound)), f"L15 {name}")

    def test_statements_and_expressions(self):
        for place, node in self.nodes(ast.AST):
            self.assertIsInstance(node, NODES + SIGNS, f"L6, L7 {place}")
        for place, node in self.nodes(ast.Constant):
            if node.value is not None:
                self.assertIsInstance(node.value, (int, str), f"L7 {place}")
            if isinstance(node.value, str):
                self.assertNotIn("%", node.value, f"L27 {place}")
        for place, node in self.nodes(ast.Assign):
            self.assertEqual(len(node.targets), 1, f"L6 {place}")
            self.assertNotIsInstance(node.targets[0], (ast.Tuple, ast.List), f"L6 {place}")
        for place, node in self.nodes(ast.Expr):
            self.assertIsInstance(node.value, (ast.Call, ast.Constant), f"L6 {place}")
        for place, node in self.nodes(ast.For, ast.While, ast.Try):
            self.assertTrue(isinstance(node, ast.Try) or not node.orelse, f"L6 {place}")
            self.assertFalse(isinstance(node, ast.Try) and node.finalbody, f"L6 {place}")
        for place, node in self.nodes(ast.ListComp):
            self.assertEqual(len(node.generators), 1, f"L7 {place}")
            self.assertLessEqual(len(node.generators[0].ifs), 1, f"L7 {place}")
        for place, node in self.nodes(ast.Compare):
            for sign, value in zip(node.ops, node.comparators):
                if isinstance(sign, (ast.Is, ast.IsNot)):
                    self.assertIsInstance(value, ast.Constant, f"L20 {place}")
        for place, node in self.nodes(ast.BinOp):
            if isinstance(node.op, ast.Pow):
                self.assertIsInstance(node.right, ast.Constant, f"L27 {place}")
                self.assertLessEqual(node.right.value, 64, f"L27 {place}")

    def test_errors(self):
        for place, node in self.nodes(ast.Raise):
            self.assertIsInstance(node.exc, ast.Call, f"L19 {place}")
        for place, node in self.nodes(ast.ExceptHandler):
            self.assertIsInstance(node.type, ast.Name, f"L6 {place}")
            self.assertNotIn(node.type.id, ("Exception", "TypeError"), f"L19 {place}")

    def test_classes_are_not_handed_on(self):
        made = {node.name for place, node in self.nodes(ast.ClassDef)}
        fit = set()
        for place, node in self.nodes(ast.Call, ast.ClassDef, ast.ExceptHandler):
            if isinstance(node, ast.ClassDef):
                fit.update(id(base) for base in node.bases)
            elif isinstance(node, ast.ExceptHandler):
                fit.add(id(node.type))
            else:
                fit.add(id(node.func))
                if isinstance(node.func, ast.Name) and node.func.id == "isinstance":
                    fit.add(id(node.args[1]))
        for place, node in self.nodes(ast.Name):
            self.assertTrue(node.id not in made or id(node) in fit, f"L18 {place}")

    def test_functions_and_classes(self):
        for place, node in self.nodes(ast.FunctionDef, ast.Lambda):
            given = node.args
            self.assertFalse(given.vararg or given.kwarg or given.kwonlyargs or given.posonlyargs, f"L4 {place}")
            self.assertFalse(any(arg.annotation for arg in given.args), f"L21 {place}")
        for place, node in self.nodes(ast.FunctionDef):
            self.assertFalse(node.decorator_list or node.returns, f"L4, L21 {place}")
        for place, node in self.nodes(ast.ClassDef):
            self.assertFalse(node.decorator_list or node.keywords, f"L5 {place}")
            self.assertLessEqual(len(node.bases), 1, f"L5 {place}")
            for part in node.body:
                self.assertIsInstance(part, (ast.FunctionDef, ast.Pass), f"L5 {place}")

    def test_names(self):
        for name, tree in self.trees.items():
            fixed = {node.name for node in tree.body if isinstance(node, ast.ClassDef)}
            fixed |= {alias.name for node in tree.body if isinstance(node, ast.ImportFrom) for alias in node.names}
            for node in ast.walk(tree):
                if isinstance(node, ast.Name) and isinstance(node.ctx, ast.Load) and node.id in dir(builtins):
                    self.assertIn(node.id, BUILTINS, f"L8 {name}.py:{node.lineno}")
                if isinstance(node, ast.Name) and isinstance(node.ctx, ast.Store) or isinstance(node, ast.arg):
                    word = node.id if isinstance(node, ast.Name) else node.arg
                    self.assertNotIn(word, fixed | set(dir(builtins)), f"L15 {name}.py:{node.lineno}")
                    self.assertRegex(word, "^[A-Za-z]", f"L12 {name}.py:{node.lineno}")
                if isinstance(node, (ast.FunctionDef, ast.ClassDef)) and node.name not in DUNDERS:
                    self.assertRegex(node.name, "^[A-Za-z]", f"L12 {name}.py:{node.lineno}")
                    self.assertNotIn(node.name, dir(builtins), f"L15 {name}.py:{node.lineno}")

    def test_methods_and_values(self):
        own = {part.name for place, node in self.nodes(ast.ClassDef) for part in node.body
               if isinstance(part, ast.FunctionDef)}
        kept = {node.attr for place, node in self.nodes(ast.Attribute) if isinstance(node.ctx, ast.Store)}
        self.assertEqual(own & kept, set(), "L18")
        for place, node in self.nodes(ast.Call):
            if isinstance(node.func, ast.Attribute):
                self.assertIn(node.func.attr, METHODS | own, f"L25 {place}")
        called = {id(node.func) for place, node in self.nodes(ast.Call)}
        for place, node in self.nodes(ast.Attribute):
            self.assertTrue(id(node) in called or node.attr in kept, f"L25 {place}")


if __name__ == "__main__":
    unittest.main()
