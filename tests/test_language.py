"""What of LANGUAGE.md a reading of the package's files can show; the numbers are those of its rules."""

import ast
import builtins
import re
import unittest
from pathlib import Path

PACKAGE = Path(__file__).resolve().parent.parent / "brooktally"
FILES = sorted(PACKAGE.glob("*.py"))
NODES = (ast.Module, ast.ImportFrom, ast.alias, ast.FunctionDef, ast.arguments, ast.arg, ast.ClassDef, ast.Lambda,
         ast.Assign, ast.AugAssign, ast.If, ast.While, ast.For, ast.Return, ast.Break, ast.Continue, ast.Pass,
         ast.Raise, ast.Try, ast.ExceptHandler, ast.Expr, ast.Call, ast.keyword, ast.Name, ast.Attribute,
         ast.Subscript, ast.Slice, ast.Constant, ast.List, ast.Tuple, ast.Dict, ast.Set, ast.ListComp,
         ast.comprehension, ast.JoinedStr, ast.FormattedValue, ast.BinOp, ast.UnaryOp, ast.BoolOp, ast.Compare,
         ast.IfExp, ast.expr_context, ast.operator, ast.unaryop, ast.boolop, ast.cmpop)
NO_NODES = (ast.Div, ast.MatMult)
OWN_NAMES = """len range enumerate zip min max sum abs sorted reversed int str bool list tuple dict set frozenset
    isinstance ord repr any all divmod Exception ValueError TypeError KeyError IndexError LookupError
    ZeroDivisionError ArithmeticError OverflowError RuntimeError NotImplementedError AttributeError
    StopIteration""".split()
METHODS = """append clear copy count endswith extend find get index insert isalnum isalpha isdigit islower isspace
    isupper items join keys ljust lower lstrip partition pop remove replace reverse rfind rjust rpartition rsplit
    rstrip setdefault split splitlines startswith strip update upper values zfill bit_length""".split()
NO_VALUES = """items keys values pop update append clear extend insert remove reverse setdefault sort args encode
    format real imag numerator denominator conjugate""".split()
NO_WORDS = re.compile(r"\b(type|typing|typing_extensions|enum|Enum|IntEnum|StrEnum|Flag|IntFlag|Generic|Protocol|ABC"
                      r"|ABCMeta|namedtuple|NamedTuple|TypedDict|TYPE_CHECKING|abstractmethod)\b"
                      r"|dataclass|overload|contextmanager")


def trees():
    return [(path.name, ast.parse(path.read_text(encoding="utf-8"))) for path in FILES]


def nodes(*kinds):
    return [(name, node) for name, tree in trees() for node in ast.walk(tree) if isinstance(node, kinds)]


def bound_names(tree):
    names = [node.id for node in ast.walk(tree) if isinstance(node, ast.Name) and isinstance(node.ctx, ast.Store)]
    return names + [node.arg for node in ast.walk(tree) if isinstance(node, ast.arg)]


class FilesTest(unittest.TestCase):
    def test_l1_l14_the_folder(self):
        for path in PACKAGE.iterdir():
            if path.name != "__pycache__":
                self.assertRegex(path.name, r"\A([a-z][a-z0-9_]*|__init__|__main__)\.py\Z")
                self.assertNotIn(path.stem, dir(builtins))

    def test_l10_l14_l17_signs_and_sizes(self):
        for path in FILES:
            text = path.read_bytes().decode("ascii")
            self.assertRegex(text, r"\A[ -~\n]*\Z", path.name)
            self.assertIsNone(NO_WORDS.search(text), path.name)
            lines = text.split("\n")
            self.assertLessEqual(len(lines), 400, path.name)
            self.assertLessEqual(max([len(line) for line in lines]), 120, path.name)
        for name, node in nodes(ast.FunctionDef):
            self.assertLessEqual(node.end_lineno - node.lineno + 1, 40, (name, node.name))


class FormTest(unittest.TestCase):
    def test_l6_l7_statements_and_expressions(self):
        for name, node in nodes(ast.AST):
            self.assertIsInstance(node, NODES, (name, getattr(node, "lineno", None)))
            self.assertNotIsInstance(node, NO_NODES, (name, getattr(node, "lineno", None)))
        for name, node in nodes(ast.Constant):
            self.assertIn(type(node.value), (int, str, bool, type(None)), (name, node.lineno))
        for name, node in nodes(ast.Assign):
            self.assertEqual(len(node.targets), 1, (name, node.lineno))
        for name, node in nodes(ast.While, ast.For):
            self.assertEqual(node.orelse, [], (name, node.lineno))

    def test_l4_l5_functions_and_classes(self):
        for name, node in nodes(ast.FunctionDef):
            self.assertEqual(node.decorator_list, [], (name, node.name))
            plain = node.args
            self.assertFalse(plain.vararg or plain.kwarg or plain.kwonlyargs or plain.posonlyargs, (name, node.name))
        for name, node in nodes(ast.ClassDef):
            self.assertLessEqual(len(node.bases), 1, (name, node.name))
            for part in node.body:
                self.assertIsInstance(part, (ast.FunctionDef, ast.Pass), (name, node.name))

    def test_l7_comprehensions(self):
        for name, node in nodes(ast.ListComp):
            self.assertEqual(len(node.generators), 1, (name, node.lineno))
            self.assertLessEqual(len(node.generators[0].ifs), 1, (name, node.lineno))

    def test_l18_methods_and_values(self):
        methods = {part.name for name, node in nodes(ast.ClassDef) for part in node.body
                   if isinstance(part, ast.FunctionDef)}
        for name, node in nodes(ast.Attribute):
            if isinstance(node.ctx, ast.Store):
                self.assertNotIn(node.attr, methods, (name, node.lineno))
                self.assertNotIn(node.attr, NO_VALUES, (name, node.lineno))

    def test_l19_handlers(self):
        for name, node in nodes(ast.ExceptHandler):
            self.assertIsInstance(node.type, ast.Name, (name, node.lineno))
            self.assertNotIn(node.type.id, ("Exception", "TypeError"), (name, node.lineno))

    def test_l20_is(self):
        for name, node in nodes(ast.Compare):
            for sign, right in zip(node.ops, node.comparators):
                if isinstance(sign, (ast.Is, ast.IsNot)):
                    self.assertIsInstance(right, ast.Constant, (name, node.lineno))

    def test_l27_texts(self):
        for name, node in nodes(ast.Constant):
            self.assertNotIn("%", str(node.value), (name, node.lineno))


class NamesTest(unittest.TestCase):
    def test_l2_l16_imports(self):
        drawn = {}
        for name, tree in trees():
            rows = [node for node in tree.body if isinstance(node, ast.ImportFrom)]
            inner = [node for node in ast.walk(tree) if isinstance(node, ast.ImportFrom)]
            self.assertEqual(rows, inner, name)
            drawn[name] = [row.module.removeprefix("brooktally.") + ".py" for row in rows]
            for row in rows:
                self.assertEqual((row.level, row.module.split(".")[0]), (0, "brooktally"), name)
                self.assertEqual([part.asname for part in row.names if part.asname or part.name == "*"], [], name)
        while drawn:
            free = [name for name in drawn if not any(other in drawn for other in drawn[name])]
            self.assertNotEqual(free, [], "files draw from one another")
            drawn = {name: rows for name, rows in drawn.items() if name not in free}

    def test_l8_l17_names_of_python(self):
        for name, tree in trees():
            own = set(bound_names(tree))
            own.update(node.name for node in ast.walk(tree) if isinstance(node, (ast.FunctionDef, ast.ClassDef)))
            own.update(part.name for node in tree.body if isinstance(node, ast.ImportFrom) for part in node.names)
            for node in ast.walk(tree):
                if isinstance(node, ast.Name):
                    self.assertTrue(node.id in own or node.id in OWN_NAMES, (name, node.id))

    def test_l12_l15_names_of_its_own(self):
        for name, tree in trees():
            defs = [node.name for node in ast.walk(tree) if isinstance(node, (ast.FunctionDef, ast.ClassDef))]
            tops = [target.id for node in tree.body if isinstance(node, ast.Assign) for target in node.targets]
            tops += [node.name for node in tree.body if isinstance(node, (ast.FunctionDef, ast.ClassDef))]
            tops += [part.name for node in tree.body if isinstance(node, ast.ImportFrom) for part in node.names]
            self.assertEqual(len(tops), len(set(tops)), name)
            drawn = [part.name for node in tree.body if isinstance(node, ast.ImportFrom) for part in node.names]
            locals_of = [word for node in tree.body if not isinstance(node, ast.Assign) for word in bound_names(node)]
            self.assertEqual([word for word in locals_of if word in drawn], [], name)
            for word in bound_names(tree) + defs:
                self.assertRegex(word, r"\A([A-Za-z][A-Za-z0-9_]*|__(init|eq|repr|str|len)__)\Z", name)
                self.assertNotIn(word, dir(builtins), name)

    def test_l25_methods(self):
        own = METHODS + ["__init__"] + [node.name for name, node in nodes(ast.FunctionDef)]
        for name, node in nodes(ast.Call):
            if isinstance(node.func, ast.Attribute):
                self.assertIn(node.func.attr, own, (name, node.lineno))


if __name__ == "__main__":
    unittest.main()
