"""Rules of the Python subset that can be seen in the files of the package."""

import ast
import pathlib
import re
import unittest

PACKAGE = pathlib.Path(__file__).resolve().parent.parent / "burstlimits"
BARRED_WORDS = re.compile(
    r"\b(type|typing|typing_extensions|enum|Enum|IntEnum|StrEnum|Flag|IntFlag|Generic|Protocol|ABC|ABCMeta|namedtuple"
    r"|NamedTuple|TypedDict|TYPE_CHECKING|abstractmethod|register|mro|elements|open|input|law)\b"
    r"|dataclass|overload|contextmanager"
)
BUILTINS = (
    "len range enumerate zip min max sum abs sorted reversed int str bool bytes list tuple dict set frozenset isinstance"
    " ord repr any all divmod super property classmethod staticmethod iter next ValueError TypeError KeyError IndexError"
    " ZeroDivisionError StopIteration"
).split()
TAKES_A_LIST = ("sum", "min", "max", "sorted", "any", "all")
# A statement that is none of these is not in the subset.
STATEMENTS = (
    ast.Assign, ast.AugAssign, ast.If, ast.While, ast.For, ast.Return, ast.Break, ast.Continue, ast.Pass, ast.Raise,
    ast.Assert, ast.Delete, ast.Nonlocal, ast.Match, ast.With, ast.Try, ast.Expr, ast.FunctionDef, ast.ClassDef, ast.ImportFrom,
)


def files():
    """Path, text and tree of each file of the package."""
    found = []
    for path in sorted(PACKAGE.rglob("*")):
        if path.is_file() and "__pycache__" not in path.parts:
            text = path.read_bytes().decode("ascii")
            found.append((path, text, ast.parse(text)))
    return found


def names_bound(tree):
    """All names that functions, classes, parameters, variables and imports have."""
    for node in ast.walk(tree):
        if isinstance(node, (ast.FunctionDef, ast.ClassDef)):
            yield node.name
        elif isinstance(node, ast.arg):
            yield node.arg
        elif isinstance(node, ast.Name) and isinstance(node.ctx, ast.Store):
            yield node.id
        elif isinstance(node, ast.alias):
            yield node.asname or node.name


class Language(unittest.TestCase):
    def test_files(self):
        for path, text, _ in files():
            self.assertRegex(path.name, r"^[a-z0-9_]+\.py$")
            self.assertLessEqual(len(text.splitlines()), 399, path)
            for line in text.split("\n"):
                self.assertLessEqual(len(line), 120, path)
                self.assertRegex(line, r"^[ -~]*$")

    def test_words(self):
        for path, text, _ in files():
            self.assertIsNone(BARRED_WORDS.search(text), path)
            self.assertNotIn("%", "".join([node.value for node in ast.walk(ast.parse(text))
                                           if isinstance(node, ast.Constant) and isinstance(node.value, str)]), path)

    def test_imports(self):
        for path, _, tree in files():
            for node in ast.walk(tree):
                self.assertNotIsInstance(node, ast.Import, path)
                if isinstance(node, ast.ImportFrom):
                    self.assertIn(node, tree.body)
                    self.assertEqual(node.level, 0)
                    self.assertTrue(node.module.startswith("burstlimits."))
                    self.assertTrue((PACKAGE / (node.module.split(".")[1] + ".py")).is_file())

    def test_imports_go_one_way(self):
        needs = {path.stem: [node.module.split(".")[1] for node in tree.body if isinstance(node, ast.ImportFrom)]
                 for path, _, tree in files()}

        def reached(name, seen):
            for other in needs[name]:
                self.assertNotIn(other, seen)
                reached(other, [*seen, other])

        for name in needs:
            reached(name, [name])

    def test_names(self):
        special = r"__(init|eq|repr|str|len|enter|exit|call|iter|contains|getitem|add|radd|bool)__"
        for path, _, tree in files():
            for name in names_bound(tree):
                self.assertRegex(name, r"^([A-Za-z][A-Za-z0-9_]*|" + special + r")$", path)
                self.assertNotIn(name, BUILTINS, path)
            bound = [node.name for node in tree.body if isinstance(node, (ast.FunctionDef, ast.ClassDef))]
            bound += [target.id for node in tree.body if isinstance(node, ast.Assign) for target in node.targets]
            bound += [alias.name for node in tree.body if isinstance(node, ast.ImportFrom) for alias in node.names]
            self.assertEqual(len(bound), len(set(bound)), path)

    def test_statements_and_expressions(self):
        for path, _, tree in files():
            for node in ast.walk(tree):
                if isinstance(node, ast.stmt):
                    self.assertIsInstance(node, STATEMENTS, path)
                self.assertNotIsInstance(node, (ast.Div, ast.AsyncFunctionDef, ast.Await), path)
                if isinstance(node, ast.Constant):
                    self.assertNotIsInstance(node.value, (float, complex))
                if isinstance(node, ast.Call) and isinstance(node.func, ast.Name) and node.func.id in TAKES_A_LIST:
                    for arg in node.args:
                        self.assertNotIsInstance(arg, ast.GeneratorExp, (path, node.lineno))

    def test_nothing_else_has_the_name_of_a_generator(self):
        functions = [node for _, _, tree in files() for node in ast.walk(tree) if isinstance(node, ast.FunctionDef)]
        generators = [node.name for node in functions
                      if any([isinstance(part, (ast.Yield, ast.YieldFrom)) for part in ast.walk(node)])]
        names = [node.name for node in functions]
        self.assertEqual([name for name in generators if names.count(name) != 1], [])

    def test_the_end_of_a_with_statement_only_assigns_and_tests(self):
        for path, _, tree in files():
            for node in ast.walk(tree):
                if isinstance(node, ast.FunctionDef) and node.name == "__exit__":
                    for part in ast.walk(node):
                        self.assertNotIsInstance(part, (ast.Call, ast.Subscript, ast.For, ast.While, ast.Try), path)

    def test_functions(self):
        for path, _, tree in files():
            for node in ast.walk(tree):
                if isinstance(node, ast.FunctionDef):
                    self.assertLessEqual(node.end_lineno - node.lineno + 1, 40, (path, node.name))
                    self.assertEqual(node.args.posonlyargs, [])
                    for decorator in node.decorator_list:
                        self.assertIn(ast.unparse(decorator).split(".")[-1], ("property", "classmethod", "staticmethod", "setter"))

    def test_module_level(self):
        for path, _, tree in files():
            for at, node in enumerate(tree.body):
                if isinstance(node, ast.Expr):
                    self.assertEqual((at, isinstance(node.value, ast.Constant)), (0, True), path)
                else:
                    self.assertIsInstance(node, (ast.ImportFrom, ast.Assign, ast.FunctionDef, ast.ClassDef), path)

    def test_no_name_is_a_method_here_and_an_attribute_there(self):
        methods, attributes = [], []
        for _, _, tree in files():
            for node in ast.walk(tree):
                if isinstance(node, ast.ClassDef):
                    methods += [part.name for part in node.body if isinstance(part, ast.FunctionDef)]
                if isinstance(node, ast.Attribute) and isinstance(node.ctx, ast.Store):
                    attributes.append(node.attr)
        self.assertEqual([name for name in attributes if name in methods], [])


if __name__ == "__main__":
    unittest.main()
