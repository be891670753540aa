"""Holds the package's files to those rules of the language that can be read off a file by itself."""
import ast
import builtins
import pathlib
import re
import unittest

PACKAGE = pathlib.Path(__file__).resolve().parent.parent / "askring"
FILES = sorted(PACKAGE.rglob("*.py"))

NODES = """
Module Import ImportFrom alias FunctionDef arguments arg ClassDef Lambda Return Assign AugAssign For While If Raise
Try ExceptHandler Expr Pass Break Continue BoolOp And Or BinOp UnaryOp Add Sub Mult FloorDiv Mod Pow LShift RShift
BitOr BitXor BitAnd Invert Not UAdd USub IfExp Dict Set ListComp comprehension Compare Eq NotEq Lt LtE Gt GtE Is IsNot
In NotIn Call keyword FormattedValue JoinedStr Constant Attribute Subscript Name List Tuple Slice Load Store
""".split()
OWN_NAMES = """
len range enumerate zip min max sum abs sorted reversed int str bool list tuple dict set frozenset isinstance ord repr
any all divmod Exception ValueError TypeError KeyError IndexError LookupError ZeroDivisionError ArithmeticError
OverflowError RuntimeError NotImplementedError AttributeError StopIteration print
""".split()
METHODS = ["__init__", "__eq__", "__repr__", "__str__", "__len__"]
WORDS = """
type typing typing_extensions enum Enum IntEnum StrEnum Flag IntFlag Generic Protocol ABC ABCMeta namedtuple NamedTuple
TypedDict TYPE_CHECKING abstractmethod
""".split()
OWN_METHODS = """
append clear copy count endswith extend find get index insert isalnum isalpha isdigit islower isspace isupper items
join keys ljust lower lstrip partition pop remove replace reverse rfind rjust rpartition rsplit rstrip setdefault split
splitlines startswith strip update upper values zfill bit_length
""".split()


def nodes_of(path, *kinds):
    return [node for node in ast.walk(ast.parse(path.read_text())) if isinstance(node, kinds)]


class LanguageTest(unittest.TestCase):
    def test_l1_l14_files(self):
        self.assertTrue((PACKAGE / "__init__.py").is_file())
        for path in PACKAGE.rglob("*"):
            if "__pycache__" not in path.parts:
                self.assertRegex(path.name, r"\A[a-z0-9_]+\.py\Z")

    def test_l2_l16_imports(self):
        for path in FILES:
            with self.subTest(path=path.name):
                self.assertEqual([node.names[0].name for node in nodes_of(path, ast.Import)
                                  if path.name != "__main__.py"], [])
                for node in nodes_of(path, ast.ImportFrom):
                    self.assertEqual(node.level, 0)
                    self.assertRegex(node.module, r"\Aaskring\.")
                    self.assertNotIn("*", [name.name for name in node.names])

    def test_l16_names_come_from_where_they_are_defined_and_no_two_files_draw_from_one_another(self):
        draws = {}
        for path in FILES:
            imports = nodes_of(path, ast.ImportFrom)
            draws[path.stem] = {node.module.removeprefix("askring.") for node in imports}
            for node in imports:
                top = ast.parse((PACKAGE / f"{node.module.removeprefix('askring.')}.py").read_text()).body
                defined = [part.name for part in top if isinstance(part, (ast.FunctionDef, ast.ClassDef))]
                defined += [part.targets[0].id for part in top if isinstance(part, ast.Assign)]
                self.assertEqual([name.name for name in node.names if name.name not in defined], [], path.name)
        while draws:
            bottom = [stem for stem in draws if not draws[stem] & set(draws)]
            self.assertNotEqual(bottom, [], f"these draw from one another: {sorted(draws)}")
            for stem in bottom:
                draws.pop(stem)

    def test_l3_to_l7_forms(self):
        for path in FILES:
            with self.subTest(path=path.name):
                for node in nodes_of(path, ast.AST):
                    self.assertIn(type(node).__name__, NODES)
                for node in nodes_of(path, ast.Assign):
                    self.assertEqual(len(node.targets), 1)
                for node in nodes_of(path, ast.FunctionDef, ast.ClassDef):
                    self.assertEqual(node.decorator_list, [])
                for node in nodes_of(path, ast.arguments):
                    self.assertEqual((node.vararg, node.kwarg, node.kwonlyargs, node.posonlyargs), (None, None, [], []))
                for node in nodes_of(path, ast.Constant):
                    self.assertIn(type(node.value), (int, str, bool, type(None)))
                for node in nodes_of(path, ast.ClassDef):
                    self.assertLessEqual(len(node.bases), 1)
                    for part in node.body:
                        self.assertIsInstance(part, (ast.FunctionDef, ast.Pass))

    def test_l8_l12_names(self):
        for path in FILES:
            with self.subTest(path=path.name):
                for node in nodes_of(path, ast.Name):
                    if hasattr(builtins, node.id):
                        self.assertIn(node.id, OWN_NAMES)
                names = [node.id for node in nodes_of(path, ast.Name)]
                names += [node.attr for node in nodes_of(path, ast.Attribute)]
                names += [node.arg for node in nodes_of(path, ast.arg)]
                names += [node.name for node in nodes_of(path, ast.FunctionDef, ast.ClassDef)]
                for name in names:
                    if name not in METHODS:
                        self.assertRegex(name, r"\A[A-Za-z][A-Za-z0-9_]*\Z")

    def test_l10_size(self):
        for path in FILES:
            with self.subTest(path=path.name):
                lines = path.read_text().splitlines()
                self.assertLessEqual(len(lines), 400)
                self.assertLessEqual(max(map(len, lines), default=0), 120)
                for node in nodes_of(path, ast.FunctionDef):
                    self.assertLessEqual(node.end_lineno - node.lineno + 1, 40, node.name)

    def test_l14_l17_signs_and_words(self):
        for path in FILES:
            with self.subTest(path=path.name):
                text = path.read_bytes().decode("utf-8")
                self.assertRegex(text, r"\A[ -~\n]*\Z")
                self.assertEqual([word for word in WORDS if re.search(rf"\b{word}\b", text)], [])
                self.assertNotRegex(text, "dataclass|overload|contextmanager")

    def test_l15_no_local_is_called_like_a_class_an_import_or_a_name_of_pythons_own(self):
        for path in FILES:
            with self.subTest(path=path.name):
                taken = [node.name for node in nodes_of(path, ast.ClassDef)]
                taken += [name.name for node in nodes_of(path, ast.ImportFrom) for name in node.names]
                names = [node.arg for node in nodes_of(path, ast.arg)]
                names += [node.id for node in nodes_of(path, ast.Name) if isinstance(node.ctx, ast.Store)]
                self.assertEqual([name for name in names if name in taken or hasattr(builtins, name)], [])

    def test_l25_methods(self):
        methods = [node.name for path in FILES for part in nodes_of(path, ast.ClassDef) for node in part.body
                   if isinstance(node, ast.FunctionDef)]
        for path in FILES:
            with self.subTest(path=path.name):
                called = [node.func.attr for node in nodes_of(path, ast.Call) if isinstance(node.func, ast.Attribute)]
                self.assertEqual([name for name in called if name not in methods + OWN_METHODS], [])

    def test_l18_no_name_is_a_method_and_a_value(self):
        methods, values = set(), set()
        for path in FILES:
            for node in nodes_of(path, ast.ClassDef):
                methods |= {part.name for part in node.body if isinstance(part, ast.FunctionDef)}
            values |= {node.attr for node in nodes_of(path, ast.Attribute) if isinstance(node.ctx, ast.Store)}
        self.assertEqual(methods & values, set())

    def test_l20_is(self):
        for path in FILES:
            with self.subTest(path=path.name):
                for node in nodes_of(path, ast.Compare):
                    if any(isinstance(sign, (ast.Is, ast.IsNot)) for sign in node.ops):
                        sides = [node.left] + node.comparators
                        # By their texts, since 0 and 1 are equal to False and True.
                        self.assertTrue({ast.unparse(side) for side in sides} & {"None", "True", "False"})


if __name__ == "__main__":
    unittest.main()
