"""The package keeps to what can be seen of the rules of the language at a glance."""

import ast
import builtins
import re
import unittest
from pathlib import Path

PACKAGE = Path(__file__).resolve().parent.parent / "ringclear"
BUILTINS = set(
    "len range enumerate zip min max sum abs sorted reversed int str bool bytes list tuple dict set frozenset isinstance"
    " ord repr any all divmod iter next super property staticmethod classmethod Exception ValueError TypeError KeyError"
    " IndexError LookupError ZeroDivisionError ArithmeticError OverflowError RuntimeError NotImplementedError"
    " AttributeError StopIteration NotImplemented".split()
)
BARRED = re.compile(
    r"\b(type|typing|typing_extensions|enum|Enum|IntEnum|StrEnum|Flag|IntFlag|Generic|Protocol|ABC|ABCMeta|namedtuple"
    r"|NamedTuple|TypedDict|TYPE_CHECKING|abstractmethod)\b|dataclass|overload|contextmanager"
)
BARRED_NODES = (
    ast.Global, ast.AsyncFunctionDef, ast.AsyncFor, ast.AsyncWith, ast.Await, ast.Div, ast.MatMult, ast.Import,
)


def sources():
    """Each file of the package with its text and its tree."""
    for path in sorted(PACKAGE.glob("*.py")):
        text = path.read_text(encoding="utf-8")
        yield path.name, text, ast.parse(text)


def nodes_of(tree, kind):
    return [node for node in ast.walk(tree) if isinstance(node, kind)]


def top_names(tree):
    """The names that are defined at the top of a file, imports left out."""
    names = [node.name for node in tree.body if isinstance(node, (ast.FunctionDef, ast.ClassDef))]
    return names + [node.targets[0].id for node in tree.body if isinstance(node, ast.Assign)]


class Language(unittest.TestCase):

    def test_the_folder_has_nothing_but_python_files(self):
        names = [path.name for path in PACKAGE.iterdir() if path.name != "__pycache__"]
        self.assertIn("__init__.py", names)
        for name in names:
            self.assertRegex(name, r"\A(__init__|__main__|[a-z][a-z0-9_]*)\.py\Z")

    def test_signs_and_sizes(self):
        for name, text, tree in sources():
            with self.subTest(name):
                self.assertRegex(text, r"\A[ -~\n]*\Z")
                self.assertLessEqual(len(text.splitlines()), 399)
                self.assertLessEqual(max(len(row) for row in text.splitlines()), 120)
                for node in nodes_of(tree, ast.FunctionDef):
                    self.assertLessEqual(node.end_lineno - node.lineno + 1, 40, node.name)

    def test_imports_name_the_defining_file(self):
        defined = {"ringclear." + name[:-3]: top_names(tree) for name, text, tree in sources()}
        for name, text, tree in sources():
            for node in nodes_of(tree, ast.ImportFrom):
                for one in node.names:
                    with self.subTest(file=name, imported=one.name):
                        self.assertEqual(node.level, 0)
                        self.assertIn(one.name, defined.get(node.module, []))

    def test_no_barred_words_and_statements(self):
        for name, text, tree in sources():
            with self.subTest(name):
                self.assertIsNone(BARRED.search(text))
                self.assertEqual(nodes_of(tree, BARRED_NODES), [])
                for node in nodes_of(tree, ast.Constant):
                    self.assertNotIsInstance(node.value, float)
                    self.assertFalse(isinstance(node.value, str) and "%" in node.value, node.value)

    def test_builtins_in_use_are_listed_ones(self):
        for name, text, tree in sources():
            used = {node.id for node in nodes_of(tree, ast.Name)} & set(dir(builtins))
            self.assertEqual(used - BUILTINS, set(), name)

    def test_is_stands_beside_none_true_and_false_alone(self):
        for name, text, tree in sources():
            for node in nodes_of(tree, ast.Compare):
                for sign, other in zip(node.ops, node.comparators):
                    if isinstance(sign, (ast.Is, ast.IsNot)):
                        self.assertIn(ast.unparse(other), ["None", "True", "False"], name)

    def test_no_generator_expressions_and_no_growing_powers(self):
        # A class has an __eq__, so any, all and the like take lists.
        for name, text, tree in sources():
            self.assertEqual(nodes_of(tree, ast.GeneratorExp), [], name)
            for node in nodes_of(tree, ast.BinOp):
                if isinstance(node.op, ast.Pow):
                    self.assertIn(node.right.value, range(65), name)

    def test_no_two_files_import_from_each_other(self):
        needs = {name[:-3]: {node.module.split(".")[1] for node in nodes_of(tree, ast.ImportFrom)}
                 for name, text, tree in sources()}
        while needs:
            free = [name for name in needs if not needs[name] & set(needs)]
            self.assertTrue(free, needs)
            for name in free:
                del needs[name]

    def test_local_names_are_not_those_of_imports_classes_and_builtins(self):
        for name, text, tree in sources():
            taken = {one.name for node in nodes_of(tree, ast.ImportFrom) for one in node.names}
            taken |= {node.name for node in nodes_of(tree, ast.ClassDef)} | set(dir(builtins))
            local = {node.id for node in nodes_of(tree, ast.Name) if isinstance(node.ctx, ast.Store)}
            local |= {node.arg for node in nodes_of(tree, ast.arg)}
            self.assertEqual(local & taken, set(), name)

    def test_handlers_name_own_errors(self):
        own = {node.name for name, text, tree in sources() if name == "errors.py" for node in nodes_of(tree, ast.ClassDef)}
        for name, text, tree in sources():
            for node in nodes_of(tree, ast.ExceptHandler):
                caught = node.type.elts if isinstance(node.type, ast.Tuple) else [node.type]
                self.assertLessEqual({one.id for one in caught}, own, name)

    def test_functions_of_tables_are_named_ahead_of_their_call(self):
        for name, text, tree in sources():
            for node in nodes_of(tree, ast.Call):
                self.assertIsInstance(node.func, (ast.Name, ast.Attribute), name)

    def test_no_name_is_a_method_and_an_attribute(self):
        methods, attributes = set(), set()
        for name, text, tree in sources():
            for made in nodes_of(tree, ast.ClassDef):
                methods |= {node.name for node in made.body if isinstance(node, ast.FunctionDef)}
            attributes |= {node.attr for node in nodes_of(tree, ast.Attribute) if isinstance(node.ctx, ast.Store)}
        self.assertEqual(methods & attributes, set())


if __name__ == "__main__":
    unittest.main()
