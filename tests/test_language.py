"""The package's files keep to the small part of Python that can be checked from their form."""

import ast
import builtins
import pathlib
import re
import unittest

PACKAGE = pathlib.Path(__file__).resolve().parent.parent / "threewards"
FILES = sorted(PACKAGE.rglob("*.py"))

STATEMENTS = (ast.Assign, ast.AugAssign, ast.If, ast.While, ast.For, ast.Return, ast.Break, ast.Continue, ast.Pass,
              ast.Raise, ast.Try, ast.Expr, ast.FunctionDef, ast.ClassDef, ast.ImportFrom)
EXPRESSIONS = (ast.BoolOp, ast.BinOp, ast.UnaryOp, ast.Lambda, ast.IfExp, ast.Dict, ast.Set, ast.ListComp, ast.Compare,
               ast.Call, ast.FormattedValue, ast.JoinedStr, ast.Constant, ast.Attribute, ast.Subscript, ast.Name,
               ast.List, ast.Tuple, ast.Slice)
BUILTINS = set("""len range enumerate zip min max sum abs sorted reversed int str bool list tuple dict set frozenset
    isinstance ord repr any all divmod Exception ValueError TypeError KeyError IndexError LookupError
    ZeroDivisionError ArithmeticError OverflowError RuntimeError NotImplementedError AttributeError
    StopIteration""".split())
METHODS = set("""append clear copy count endswith extend find get index insert isalnum isalpha isdigit islower isspace
    isupper items join keys ljust lower lstrip partition pop remove replace reverse rfind rjust rpartition rsplit
    rstrip setdefault split splitlines startswith strip update upper values zfill bit_length""".split())
WORDS_LEFT_OUT = re.compile(r"\b(type|typing|typing_extensions|enum|Enum|IntEnum|StrEnum|Flag|IntFlag|Generic|Protocol"
                            r"|ABC|ABCMeta|namedtuple|NamedTuple|TypedDict|TYPE_CHECKING|abstractmethod)\b"
                            r"|dataclass|overload|contextmanager")
NAMES_LEFT_OUT = set("""register mro elements open input version_info with_traceback add_note attrgetter breakpoint
    builtins compile copyright credits delattr dir eval exec exit gc getattr globals hasattr help id importlib license
    locals methodcaller os quit setattr super type vars sys chr print""".split())
WALKED_AT_ONCE = ("zip", "enumerate", "reversed", "range")
WALKERS = ("list", "tuple", "dict", "sorted", "sum", "any", "all", "enumerate", "zip", "min", "max")
KEYWORDS = {"sorted": ("key", "reverse"), "min": ("key", "default"), "max": ("key", "default"), "sum": ("start",),
            "enumerate": ("start",), "zip": ("strict",)}
SPECIAL_METHODS = ("__init__", "__eq__", "__repr__", "__str__", "__len__")


def nodes(sort):
    return [(path.name, node) for path in FILES for node in ast.walk(ast.parse(path.read_text())) if
            isinstance(node, sort)]


def nodes_below(sort):
    """The nodes of a sort, each with the node that it stands in."""
    return [(path.name, above, node) for path in FILES for above in ast.walk(ast.parse(path.read_text()))
            for node in ast.iter_child_nodes(above) if isinstance(node, sort)]


def called(node):
    return node.func.id if isinstance(node, ast.Call) and isinstance(node.func, ast.Name) else None


def tops():
    return {f"threewards.{path.stem}": ast.parse(path.read_text()).body for path in FILES}


def own_methods():
    return {part.name for name, node in nodes(ast.ClassDef) for part in node.body if isinstance(part, ast.FunctionDef)}


class Form(unittest.TestCase):
    def test_the_package_holds_plain_python_files_alone(self):
        self.assertIn(PACKAGE / "__init__.py", FILES)
        for path in PACKAGE.rglob("*"):
            if "__pycache__" not in path.parts and path.is_file():
                self.assertRegex(path.name, r"^([a-z][a-z0-9_]*|__init__|__main__)\.py$")

    def test_signs_words_and_sizes(self):
        for path in FILES:
            text = path.read_bytes().decode("utf-8")
            with self.subTest(path.name):
                self.assertRegex(text, r"\A[\n -~]*\Z")
                self.assertIsNone(WORDS_LEFT_OUT.search(text))
                self.assertLessEqual(len(text.splitlines()), 400)
                self.assertLessEqual(max(map(len, text.splitlines()), default=0), 120)

    def test_statements_and_expressions(self):
        for name, node in nodes((ast.stmt, ast.expr)):
            with self.subTest(name, line=node.lineno):
                self.assertIsInstance(node, STATEMENTS + EXPRESSIONS)
        for name, node in nodes((ast.For, ast.While)):
            self.assertEqual(node.orelse, [], name)
        for name, node in nodes(ast.Assign):
            self.assertEqual(len(node.targets), 1, name)
            self.assertNotIsInstance(node.targets[0], (ast.Tuple, ast.List), name)
        for name, node in nodes(ast.ListComp):
            self.assertTrue(len(node.generators) == 1 and len(node.generators[0].ifs) <= 1, name)
        for name, node in nodes(ast.BinOp):
            self.assertNotIsInstance(node.op, (ast.Div, ast.MatMult), name)
        for name, node in nodes(ast.Constant):
            self.assertNotIsInstance(node.value, (float, complex, bytes), name)

    def test_imports(self):
        for name, node in nodes(ast.ImportFrom):
            with self.subTest(name, line=node.lineno):
                self.assertEqual(node.level, 0)
                self.assertRegex(node.module, r"^threewards\.[a-z]+$")
                self.assertNotIn("*", [alias.name for alias in node.names])

    def test_imports_name_the_defining_file_and_go_in_no_circle(self):
        drawn = {module: [node for node in body if isinstance(node, ast.ImportFrom)] for module, body in tops().items()}
        defined = {module: [node.name for node in body if isinstance(node, (ast.FunctionDef, ast.ClassDef))] +
                   [node.targets[0].id for node in body if isinstance(node, ast.Assign)]
                   for module, body in tops().items()}
        for module, rows in drawn.items():
            for row in rows:
                for alias in row.names:
                    self.assertIn(alias.name, defined[row.module], module)
        left = {module: {row.module for row in rows} for module, rows in drawn.items()}
        while left:
            free = [module for module, rows in left.items() if not rows & set(left)]
            self.assertTrue(free, f"a circle among {sorted(left)}")
            left = {module: rows for module, rows in left.items() if module not in free}

    def test_the_top_of_a_module(self):
        for module, body in tops().items():
            docstring = isinstance(body[0], ast.Expr) and isinstance(body[0].value, ast.Constant)
            for node in body[1:] if docstring else body:
                self.assertIsInstance(node, (ast.ImportFrom, ast.FunctionDef, ast.ClassDef, ast.Assign), module)
            bound = [node.name for node in body if isinstance(node, (ast.FunctionDef, ast.ClassDef))]
            bound += [alias.name for node in body if isinstance(node, ast.ImportFrom) for alias in node.names]
            bound += [node.targets[0].id for node in body if isinstance(node, ast.Assign)]
            self.assertEqual(len(set(bound)), len(bound), module)

    def test_no_parameter_or_local_is_called_like_a_name_of_the_file_s_top(self):
        for module, body in tops().items():
            top = [node.name for node in body if isinstance(node, (ast.FunctionDef, ast.ClassDef))]
            top += [alias.name for node in body if isinstance(node, ast.ImportFrom) for alias in node.names]
            for function in [node for node in body if isinstance(node, ast.FunctionDef)]:
                inner = [node.arg for node in ast.walk(function) if isinstance(node, ast.arg)]
                inner += [node.id for node in ast.walk(function)
                          if isinstance(node, ast.Name) and isinstance(node.ctx, ast.Store)]
                with self.subTest(module, function=function.name):
                    self.assertEqual(set(inner) & set(top), set())

    def test_what_is_walked_at_once_and_sets(self):
        for name, above, node in nodes_below(ast.Call):
            with self.subTest(name, line=node.lineno):
                walked = called(node) in WALKED_AT_ONCE or (isinstance(node.func, ast.Attribute)
                                                            and node.func.attr in ("items", "keys", "values"))
                if walked and not isinstance(above, (ast.For, ast.comprehension)):
                    self.assertIn(called(above), WALKERS)
                if called(node) in ("set", "frozenset") and not isinstance(above, ast.Compare):
                    self.assertIn(called(above), ("sorted", "len"))
                for keyword in node.keywords:
                    self.assertIn(keyword.arg, KEYWORDS.get(called(node), ()))

    def test_is_stands_beside_none_true_and_false_alone(self):
        for name, node in nodes(ast.Compare):
            for sort, right in zip(node.ops, node.comparators):
                if isinstance(sort, (ast.Is, ast.IsNot)):
                    self.assertTrue(isinstance(right, ast.Constant) and right.value in (None, True, False), name)

    def test_names_left_out(self):
        for name, node in nodes((ast.Name, ast.Attribute)):
            word = node.id if isinstance(node, ast.Name) else node.attr
            with self.subTest(name, line=node.lineno):
                self.assertNotIn(word, NAMES_LEFT_OUT)

    def test_functions_and_classes(self):
        for name, node in nodes(ast.FunctionDef):
            with self.subTest(name, function=node.name):
                self.assertLessEqual(node.end_lineno - node.lineno + 1, 40)
                self.assertEqual(node.decorator_list, [])
                self.assertFalse(node.args.vararg or node.args.kwarg or node.args.kwonlyargs or node.args.posonlyargs)
        for name, node in nodes(ast.ClassDef):
            with self.subTest(name, built=node.name):
                self.assertEqual(node.decorator_list + node.keywords, [])
                self.assertLessEqual(len(node.bases), 1)
                for part in node.body:
                    self.assertIsInstance(part, (ast.FunctionDef, ast.Pass))

    def test_names(self):
        bound = [(name, node.id) for name, node in nodes(ast.Name) if isinstance(node.ctx, ast.Store)]
        bound += [(name, node.arg) for name, node in nodes(ast.arg)]
        bound += [(name, node.name) for name, node in nodes((ast.FunctionDef, ast.ClassDef))
                  if node.name not in SPECIAL_METHODS]
        for name, word in bound:
            with self.subTest(name, word=word):
                self.assertRegex(word, r"^[A-Za-z][A-Za-z0-9_]*$")
                self.assertFalse(hasattr(builtins, word))
        for name, node in nodes(ast.Name):
            with self.subTest(name, word=node.id, line=node.lineno):
                self.assertTrue(node.id in BUILTINS or not hasattr(builtins, node.id))

    def test_methods(self):
        allowed = METHODS | own_methods()
        for name, node in nodes(ast.Call):
            if isinstance(node.func, ast.Attribute):
                with self.subTest(name, line=node.lineno):
                    self.assertIn(node.func.attr, allowed)


if __name__ == "__main__":
    unittest.main()
