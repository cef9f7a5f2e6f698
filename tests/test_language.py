"""Those rules of the program's small part of Python that can be seen by a look at its files."""

import ast
import builtins
import pathlib
import re
import unittest

FOLDER = pathlib.Path(__file__).resolve().parent.parent / "byexample"

OWN_NAMES = set(
    "len range enumerate zip min max sum abs sorted reversed int str bool list tuple dict set frozenset isinstance "
    "ord repr any all divmod Exception ValueError TypeError KeyError IndexError LookupError ZeroDivisionError "
    "ArithmeticError OverflowError RuntimeError NotImplementedError AttributeError StopIteration".split()
)
WORDS_NOWHERE = re.compile(
    r"\b(type|typing|typing_extensions|enum|Enum|IntEnum|StrEnum|Flag|IntFlag|Generic|Protocol|ABC|ABCMeta|namedtuple"
    r"|NamedTuple|TypedDict|TYPE_CHECKING|abstractmethod)\b|dataclass|overload|contextmanager"
)
METHODS = set(
    "append clear copy count endswith extend find get index insert isalnum isalpha isdigit islower isspace isupper "
    "items join keys ljust lower lstrip partition pop remove replace reverse rfind rjust rpartition rsplit rstrip "
    "setdefault split splitlines startswith strip update upper values zfill bit_length".split()
)
FOREIGN_METHODS = set()
for own_class in (str, int, list, tuple, dict, set, frozenset, bytes):
    FOREIGN_METHODS.update(name for name in dir(own_class) if name not in METHODS and not name.startswith("__"))
FOREIGN_METHODS -= {"add", "discard"}
TWO_UNDERSCORES = {"__init__", "__eq__", "__repr__", "__str__", "__len__", "__all__", "__version__"}
NODES_NOT_USED = (
    ast.With, ast.Match, ast.Delete, ast.Global, ast.Nonlocal, ast.Assert, ast.Yield, ast.YieldFrom, ast.Await,
    ast.AsyncFunctionDef, ast.AsyncFor, ast.AsyncWith, ast.SetComp, ast.DictComp, ast.GeneratorExp, ast.NamedExpr,
    ast.Starred, ast.Div, ast.MatMult, ast.Import, ast.TryStar,
)


class Tree:
    def __init__(self, path):
        self.name = path.name
        self.source = path.read_text(encoding="utf-8")
        self.top = ast.parse(self.source)
        self.nodes = list(ast.walk(self.top))

    def of(self, *classes):
        return [node for node in self.nodes if isinstance(node, classes)]


def bound_names(tree):
    names = [node.name for node in tree.of(ast.FunctionDef, ast.ClassDef)]
    names += [node.arg for node in tree.of(ast.arg)]
    names += [node.id for node in tree.of(ast.Name) if isinstance(node.ctx, ast.Store)]
    names += [node.attr for node in tree.of(ast.Attribute) if isinstance(node.ctx, ast.Store)]
    return names + [node.name for node in tree.of(ast.ExceptHandler) if node.name]


class LanguageTest(unittest.TestCase):
    def setUp(self):
        self.trees = [Tree(path) for path in sorted(FOLDER.rglob("*.py"))]

    def test_the_folder_holds_plain_files_alone(self):
        names = [path.name for path in FOLDER.rglob("*") if "__pycache__" not in path.parts]
        self.assertIn("__init__.py", names)
        for name in names:
            self.assertRegex(name, r"\A(__init__|__main__|[a-z][a-z0-9_]*)\.py\Z")
            self.assertNotIn(name[:-3], dir(builtins))

    def test_signs_and_sizes(self):
        for tree in self.trees:
            with self.subTest(tree.name):
                self.assertRegex(tree.source, r"\A[ -~\n]*\Z")
                lines = tree.source.split("\n")
                self.assertLessEqual(len(lines), 400)
                self.assertLessEqual(max(len(line) for line in lines), 120)
                for node in tree.of(ast.FunctionDef):
                    self.assertLessEqual(node.end_lineno - node.lineno + 1, 40, node.name)

    def test_words_that_stand_nowhere(self):
        for tree in self.trees:
            with self.subTest(tree.name):
                self.assertIsNone(WORDS_NOWHERE.search(tree.source))

    def test_imports(self):
        for tree in self.trees:
            with self.subTest(tree.name):
                for node in tree.of(ast.ImportFrom):
                    self.assertEqual(node.level, 0)
                    self.assertIn(node, tree.top.body)
                    self.assertTrue(node.module.startswith("byexample."), node.module)
                    target = Tree(FOLDER.parent / (node.module.replace(".", "/") + ".py"))
                    defined = bound_names(target)
                    for alias in node.names:
                        self.assertIn(alias.name, defined)

    def test_statements_and_expressions(self):
        for tree in self.trees:
            with self.subTest(tree.name):
                for node in tree.nodes:
                    self.assertNotIsInstance(node, NODES_NOT_USED, getattr(node, "lineno", None))
                for node in tree.of(ast.For, ast.While):
                    self.assertEqual(node.orelse, [], node.lineno)
                for node in tree.of(ast.Assign):
                    self.assertEqual(len(node.targets), 1, node.lineno)
                for node in tree.of(ast.Try):
                    self.assertEqual(node.finalbody, [], node.lineno)
                for node in tree.of(ast.ListComp):
                    self.assertEqual(len(node.generators), 1, node.lineno)
                    self.assertLessEqual(len(node.generators[0].ifs), 1, node.lineno)
                for node in tree.of(ast.Constant):
                    self.assertNotIsInstance(node.value, (float, bytes, complex), node.lineno)
                    self.assertFalse(isinstance(node.value, str) and "%" in node.value, node.lineno)

    def test_functions_and_classes(self):
        for tree in self.trees:
            with self.subTest(tree.name):
                for node in tree.of(ast.FunctionDef, ast.ClassDef):
                    self.assertEqual(node.decorator_list, [], node.lineno)
                for node in tree.of(ast.arguments):
                    self.assertEqual((node.vararg, node.kwarg, node.kwonlyargs, node.posonlyargs), (None, None, [], []))
                for node in tree.of(ast.ClassDef):
                    self.assertIn(node, tree.top.body)
                    self.assertLessEqual(len(node.bases), 1)
                    for part in node.body:
                        self.assertIsInstance(part, (ast.FunctionDef, ast.Pass))

    def test_names(self):
        for tree in self.trees:
            with self.subTest(tree.name):
                for name in bound_names(tree):
                    self.assertTrue(name in TWO_UNDERSCORES or re.fullmatch("[A-Za-z][A-Za-z0-9_]*", name), name)
                for name in [node.arg for node in tree.of(ast.arg)]:
                    self.assertNotIn(name, dir(builtins))
                for node in tree.of(ast.Name):
                    self.assertTrue(node.id not in dir(builtins) or node.id in OWN_NAMES, node.id)
                    if isinstance(node.ctx, ast.Store):
                        self.assertNotIn(node.id, dir(builtins))

    def test_methods_and_is(self):
        for tree in self.trees:
            with self.subTest(tree.name):
                for node in tree.of(ast.Attribute):
                    self.assertNotIn(node.attr, FOREIGN_METHODS)
                for node in tree.of(ast.Compare):
                    for operator, right in zip(node.ops, node.comparators):
                        if isinstance(operator, (ast.Is, ast.IsNot)):
                            self.assertIsInstance(right, ast.Constant)
                            self.assertIn(right.value, (None, True, False))

    def test_the_top_of_a_module(self):
        for tree in self.trees:
            with self.subTest(tree.name):
                tops = [name.id for node in tree.top.body if isinstance(node, ast.Assign) for name in node.targets]
                tops += [node.name for node in tree.top.body if isinstance(node, (ast.FunctionDef, ast.ClassDef))]
                self.assertEqual(len(tops), len(set(tops)))
                for number, node in enumerate(tree.top.body):
                    if isinstance(node, ast.Expr):
                        self.assertEqual(number, 0, node.lineno)
                    else:
                        self.assertIsInstance(node, (ast.ImportFrom, ast.FunctionDef, ast.ClassDef, ast.Assign))

    def test_plain_values_at_the_top(self):
        for tree in self.trees:
            with self.subTest(tree.name):
                for node in [node for node in tree.top.body if isinstance(node, ast.Assign)]:
                    value = ast.literal_eval(node.value)
                    if isinstance(value, (list, dict)):
                        within = value.values() if isinstance(value, dict) else value
                        self.assertFalse([part for part in within if isinstance(part, (list, dict, set))], node.lineno)

    def test_no_local_is_called_like_an_import_or_a_class(self):
        for tree in self.trees:
            with self.subTest(tree.name):
                taken = {alias.name for node in tree.of(ast.ImportFrom) for alias in node.names}
                taken |= {node.name for node in tree.of(ast.ClassDef)}
                names = {node.arg for node in tree.of(ast.arg)}
                names |= {node.id for node in tree.of(ast.Name) if isinstance(node.ctx, ast.Store)}
                self.assertEqual(taken & names, set())

    def test_no_two_files_draw_from_one_another(self):
        drawn = {}
        for tree in self.trees:
            drawn["byexample." + tree.name[:-3]] = {node.module for node in tree.of(ast.ImportFrom)}
        while drawn:
            ended = [name for name in drawn if not drawn[name] & set(drawn)]
            self.assertNotEqual(ended, [], drawn)
            for name in ended:
                drawn.pop(name)

    def test_no_name_is_a_method_and_a_value(self):
        methods = set()
        kept = set()
        for tree in self.trees:
            for node in tree.of(ast.ClassDef):
                methods |= {part.name for part in node.body if isinstance(part, ast.FunctionDef)}
            kept |= {node.attr for node in tree.of(ast.Attribute) if isinstance(node.ctx, ast.Store)}
        self.assertEqual(methods & kept, set())


if __name__ == "__main__":
    unittest.main()
