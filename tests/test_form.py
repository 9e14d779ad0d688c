"""The rules of form that can be seen from a file's text and tree."""

import ast
import pathlib
import re
import unittest

ROOT = pathlib.Path(__file__).resolve().parent.parent
PACKAGE = ROOT / "springways"

# L6 and L7: what a file may hold; every other kind of node is out.
NODES = set(
    "Module Expr Constant ImportFrom alias FunctionDef ClassDef arguments arg Assign AugAssign If While For Return "
    "Break Continue Pass Raise Try ExceptHandler Call Attribute Subscript Slice Name Load Store List Tuple Dict Set "
    "ListComp comprehension BinOp UnaryOp BoolOp Compare IfExp JoinedStr FormattedValue Lambda keyword Add Sub Mult "
    "FloorDiv Mod Pow BitAnd BitOr BitXor LShift RShift Invert USub Not And Or Eq NotEq Lt LtE Gt GtE Is IsNot In "
    "NotIn".split()
)
BUILTINS = set(
    "len range enumerate zip min max sum abs sorted reversed int str bool list tuple dict set isinstance ord repr any "
    "all divmod ValueError KeyError IndexError LookupError ZeroDivisionError StopIteration Exception".split()
)
METHODS = set(
    "append clear copy count endswith extend find get index insert isalnum isalpha isdigit islower isspace isupper "
    "items join keys ljust lower lstrip partition pop remove replace reverse rfind rjust rpartition rsplit rstrip "
    "setdefault split splitlines startswith strip update upper values zfill bit_length".split()
)
WORDS = (
    r"\b(type|typing|typing_extensions|enum|Enum|IntEnum|StrEnum|Flag|IntFlag|Generic|Protocol|ABC|ABCMeta|namedtuple"
    r"|NamedTuple|TypedDict|TYPE_CHECKING|abstractmethod)\b|dataclass|overload|contextmanager"
)
DUNDERS = ("__init__", "__eq__", "__repr__", "__str__", "__len__")


def sources():
    return sorted(path for path in PACKAGE.rglob("*") if path.is_file() and "__pycache__" not in path.parts)


def functions(tree):
    return [node for node in ast.walk(tree) if isinstance(node, ast.FunctionDef)]


def bound_names(tree):
    """The names that a file binds anywhere."""
    names = set()
    for node in ast.walk(tree):
        if isinstance(node, (ast.FunctionDef, ast.ClassDef)):
            names.add(node.name)
        elif isinstance(node, ast.arg):
            names.add(node.arg)
        elif isinstance(node, ast.Name) and isinstance(node.ctx, ast.Store):
            names.add(node.id)
        elif isinstance(node, ast.alias):
            names.add(node.name)
        elif isinstance(node, ast.ExceptHandler) and node.name:
            names.add(node.name)
    return names


def attributes(tree):
    return {node.attr for node in ast.walk(tree) if isinstance(node, ast.Attribute)}


def parsed():
    """Of each file its name, its text and its tree."""
    texts = [(path.name, path.read_text(encoding="utf-8")) for path in sources()]
    return [(name, text, ast.parse(text)) for name, text in texts]


class FormTest(unittest.TestCase):
    def test_the_folder_holds_python_files_alone(self):
        names = [str(path.relative_to(PACKAGE)) for path in sources()]
        self.assertIn("__init__.py", names)
        for name in names:
            self.assertRegex(name, r"^([a-z0-9]+|__init__)\.py$")

    def test_signs_and_sizes(self):
        for file, text, tree in parsed():
            with self.subTest(file=file):
                self.assertRegex(text, r"^[ -~\n]*\Z")
                rows = text.split("\n")
                self.assertLessEqual(len(rows), 400)
                self.assertLessEqual(max(len(row) for row in rows), 120)
                for node in functions(tree):
                    self.assertLessEqual(node.end_lineno - node.lineno + 1, 40, node.name)

    def test_words_that_stand_nowhere(self):
        for file, text, tree in parsed():
            with self.subTest(file=file):
                self.assertIsNone(re.search(WORDS, text))

    def test_nodes(self):
        for file, text, tree in parsed():
            with self.subTest(file=file):
                kinds = {type(node).__name__ for node in ast.walk(tree)}
                self.assertEqual(kinds - NODES, set())

    def test_the_top_and_texts_by_themselves(self):
        allowed = (ast.ImportFrom, ast.FunctionDef, ast.ClassDef, ast.Assign)
        for file, text, tree in parsed():
            with self.subTest(file=file):
                self.assertIsNotNone(ast.get_docstring(tree))
                for node in tree.body[1:]:
                    self.assertIsInstance(node, allowed)
                for node in ast.walk(tree):
                    if isinstance(node, ast.Expr) and node is not tree.body[0]:
                        self.assertIsInstance(node.value, ast.Call)

    def test_imports_name_the_file_that_defines(self):
        for file, text, tree in parsed():
            with self.subTest(file=file):
                for node in ast.walk(tree):
                    if isinstance(node, ast.ImportFrom):
                        self.assertEqual(node.level, 0)
                        self.assertRegex(node.module, r"^springways\.[a-z]+$")
                        origin = ast.parse((ROOT / (node.module.replace(".", "/") + ".py")).read_text())
                        own = bound_names(origin) - {name.name for row in origin.body
                                                     if isinstance(row, ast.ImportFrom) for name in row.names}
                        for name in node.names:
                            self.assertIn(name.name, own)
                            self.assertIsNone(name.asname)

    def test_names(self):
        for file, text, tree in parsed():
            with self.subTest(file=file):
                bound = bound_names(tree)
                read = {node.id for node in ast.walk(tree) if isinstance(node, ast.Name)}
                self.assertEqual(read - bound - BUILTINS, set())
                self.assertEqual(bound & BUILTINS, set())
                for name in (bound | attributes(tree)) - set(DUNDERS):
                    self.assertRegex(name, r"^[A-Za-z][A-Za-z0-9_]*$")

    def test_methods_are_own_or_allowed(self):
        own = set()
        for file, text, tree in parsed():
            with self.subTest(file=file):
                own |= {node.name for node in functions(tree)}
                own |= {node.attr for node in ast.walk(tree)
                        if isinstance(node, ast.Attribute) and isinstance(node.ctx, ast.Store)}
        for file, text, tree in parsed():
            with self.subTest(file=file):
                self.assertEqual(attributes(tree) - own - METHODS, set())

    def test_no_name_is_a_method_and_a_value(self):
        methods = set()
        values = set()
        for file, text, tree in parsed():
            with self.subTest(file=file):
                for node in ast.walk(tree):
                    if isinstance(node, ast.ClassDef):
                        methods |= {part.name for part in node.body if isinstance(part, ast.FunctionDef)}
                    elif isinstance(node, ast.Attribute) and isinstance(node.ctx, ast.Store):
                        values.add(node.attr)
        self.assertEqual(methods & values, set())

    def test_arguments_are_plain(self):
        for file, text, tree in parsed():
            with self.subTest(file=file):
                for node in functions(tree):
                    self.assertEqual(node.decorator_list, [])
                    rest = (node.args.vararg, node.args.kwarg, node.args.kwonlyargs, node.args.posonlyargs)
                    self.assertEqual(rest, (None, None, [], []))


if __name__ == "__main__":
    unittest.main()
