"""The package's files keep to the small part of Python that can be checked from their form."""

import ast
import builtins
import pathlib
import re
import unittest

PACKAGE = pathlib.Path(__file__).resolve().parent.parent / "threewards"
FILES = sorted(PACKAGE.rglob("*.py"))

STATEMENTS = (ast.Assign, ast.AugAssign, ast.If, ast.While, ast.For, ast.Return, ast.Break, ast.Continue, ast.Pass,
              ast.Raise, ast.Try, ast.Expr, ast.FunctionDef, ast.ClassDef, ast.ImportFrom)
EXPRESSIONS = (ast.BoolOp, ast.BinOp, ast.UnaryOp, ast.Lambda, ast.IfExp, ast.Dict, ast.Set, ast.ListComp, ast.Compare,
               ast.Call, ast.FormattedValue, ast.JoinedStr, ast.Constant, ast.Attribute, ast.Subscript, ast.Name,
               ast.List, ast.Tuple, ast.Slice)
BUILTINS = set("""len range enumerate zip min max sum abs sorted reversed int str bool list tuple dict set frozenset
    isinstance ord repr any all divmod Exception ValueError TypeError KeyError IndexError LookupError
    ZeroDivisionError ArithmeticError OverflowError RuntimeError NotImplementedError AttributeError
    StopIteration""".split())
METHODS = set("""append clear copy count endswith extend find get index insert isalnum isalpha isdigit islower isspace
    isupper items join keys ljust lower lstrip partition pop remove replace reverse rfind rjust rpartition rsplit
    rstrip setdefault split splitlines startswith strip update upper values zfill bit_length""".split())
WORDS_LEFT_OUT = re.compile(r"\b(type|typing|typing_extensions|enum|Enum|IntEnum|StrEnum|Flag|IntFlag|Generic|Protocol"
                            r"|ABC|ABCMeta|namedtuple|NamedTuple|TypedDict|TYPE_CHECKING|abstractmethod)\b"
                            r"|dataclass|overload|contextmanager")
SPECIAL_METHODS = ("__init__", "__eq__", "__repr__", "__str__", "__len__")


def nodes(sort):
    return [(path.name, node) for path in FILES for node in ast.walk(ast.parse(path.read_text())) if
            isinstance(node, sort)]


def own_methods():
    return {part.name for name, node in nodes(ast.ClassDef) for part in node.body if isinstance(part, ast.FunctionDef)}


class Form(unittest.TestCase):
    def test_the_package_holds_plain_python_files_alone(self):
        self.assertIn(PACKAGE / "__init__.py", FILES)
        for path in PACKAGE.rglob("*"):
            if "__pycache__" not in path.parts and path.is_file():
                self.assertRegex(path.name, r"^([a-z][a-z0-9_]*|__init__|__main__)\.py$")

    def test_signs_words_and_sizes(self):
        for path in FILES:
            text = path.read_bytes().decode("utf-8")
            with self.subTest(path.name):
                self.assertRegex(text, r"\A[\n -~]*\Z")
                self.assertIsNone(WORDS_LEFT_OUT.search(text))
                self.assertLessEqual(len(text.splitlines()), 400)
                self.assertLessEqual(max(map(len, text.splitlines()), default=0), 120)

    def test_statements_and_expressions(self):
        for name, node in nodes((ast.stmt, ast.expr)):
            with self.subTest(name, line=node.lineno):
                self.assertIsInstance(node, STATEMENTS + EXPRESSIONS)
        for name, node in nodes((ast.For, ast.While)):
            self.assertEqual(node.orelse, [], name)
        for name, node in nodes(ast.Assign):
            self.assertEqual(len(node.targets), 1, name)
        for name, node in nodes(ast.ListComp):
            self.assertTrue(len(node.generators) == 1 and len(node.generators[0].ifs) <= 1, name)
        for name, node in nodes(ast.BinOp):
            self.assertNotIsInstance(node.op, (ast.Div, ast.MatMult), name)
        for name, node in nodes(ast.Constant):
            self.assertNotIsInstance(node.value, (float, complex, bytes), name)

    def test_imports(self):
        for name, node in nodes(ast.ImportFrom):
            with self.subTest(name, line=node.lineno):
                self.assertEqual(node.level, 0)
                self.assertRegex(node.module, r"^threewards\.[a-z]+$")
                self.assertNotIn("*", [alias.name for alias in node.names])

    def test_functions_and_classes(self):
        for name, node in nodes(ast.FunctionDef):
            with self.subTest(name, function=node.name):
                self.assertLessEqual(node.end_lineno - node.lineno + 1, 40)
                self.assertEqual(node.decorator_list, [])
                self.assertFalse(node.args.vararg or node.args.kwarg or node.args.kwonlyargs or node.args.posonlyargs)
        for name, node in nodes(ast.ClassDef):
            with self.subTest(name, built=node.name):
                self.assertEqual(node.decorator_list + node.keywords, [])
                self.assertLessEqual(len(node.bases), 1)
                for part in node.body:
                    self.assertIsInstance(part, (ast.FunctionDef, ast.Pass))

    def test_names(self):
        bound = [(name, node.id) for name, node in nodes(ast.Name) if isinstance(node.ctx, ast.Store)]
        bound += [(name, node.arg) for name, node in nodes(ast.arg)]
        bound += [(name, node.name) for name, node in nodes((ast.FunctionDef, ast.ClassDef))
                  if node.name not in SPECIAL_METHODS]
        for name, word in bound:
            with self.subTest(name, word=word):
                self.assertRegex(word, r"^[A-Za-z][A-Za-z0-9_]*$")
                self.assertFalse(hasattr(builtins, word))
        for name, node in nodes(ast.Name):
            with self.subTest(name, word=node.id, line=node.lineno):
                self.assertTrue(node.id in BUILTINS or not hasattr(builtins, node.id))

    def test_methods(self):
        allowed = METHODS | own_methods()
        for name, node in nodes(ast.Call):
            if isinstance(node.func, ast.Attribute):
                with self.subTest(name, line=node.lineno):
                    self.assertIn(node.func.attr, allowed)


if __name__ == "__main__":
    unittest.main()
