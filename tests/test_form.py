"""The rules of form that can be seen from a file's text and tree."""

import ast
import builtins
import pathlib
import re
import unittest

ROOT = pathlib.Path(__file__).resolve().parent.parent
PACKAGE = ROOT / "springways"

# L6 and L7: what a file may hold; every other kind of node is out.
NODES = set(
    "Module Expr Constant ImportFrom alias FunctionDef ClassDef arguments arg Assign AugAssign If While For Return "
    "Break Continue Pass Raise Try ExceptHandler Call Attribute Subscript Slice Name Load Store List Tuple Dict Set "
    "ListComp comprehension BinOp UnaryOp BoolOp Compare IfExp JoinedStr FormattedValue Lambda keyword Add Sub Mult "
    "FloorDiv Mod Pow BitAnd BitOr BitXor LShift RShift Invert USub Not And Or Eq NotEq Lt LtE Gt GtE Is IsNot In "
    "NotIn".split()
)
BUILTINS = set(
    "len range enumerate zip min max sum abs sorted reversed int str bool list tuple dict set isinstance ord repr any "
    "all divmod ValueError KeyError IndexError LookupError ZeroDivisionError StopIteration Exception".split()
)
METHODS = set(
    "append clear copy count endswith extend find get index insert isalnum isalpha isdigit islower isspace isupper "
    "items join keys ljust lower lstrip partition pop remove replace reverse rfind rjust rpartition rsplit rstrip "
    "setdefault split splitlines startswith strip update upper values zfill bit_length".split()
)
WORDS = (
    r"\b(type|typing|typing_extensions|enum|Enum|IntEnum|StrEnum|Flag|IntFlag|Generic|Protocol|ABC|ABCMeta|namedtuple"
    r"|NamedTuple|TypedDict|TYPE_CHECKING|abstractmethod)\b|dataclass|overload|contextmanager"
)
DUNDERS = ("__init__", "__eq__", "__repr__", "__str__", "__len__")


def sources():
    return sorted(path for path in PACKAGE.rglob("*") if path.is_file() and "__pycache__" not in path.parts)


def functions(tree):
    return [node for node in ast.walk(tree) if isinstance(node, ast.FunctionDef)]


def bound_names(tree):
    """The names that a file binds anywhere."""
    names = set()
    for node in ast.walk(tree):
        if isinstance(node, (ast.FunctionDef, ast.ClassDef)):
            names.add(node.name)
        elif isinstance(node, ast.arg):
            names.add(node.arg)
        elif isinstance(node, ast.Name) and isinstance(node.ctx, ast.Store):
            names.add(node.id)
        elif isinstance(node, ast.alias):
            names.add(node.name)
        elif isinstance(node, ast.ExceptHandler) and node.name:
            names.add(node.name)
    return names


def imported(tree):
    return {name.name for row in tree.body if isinstance(row, ast.ImportFrom) for name in row.names}


def drawn_from(tree):
    return {row.module.split(".")[1] for row in tree.body if isinstance(row, ast.ImportFrom)}


def locals_of(tree):
    """The names of all parameters and locals of a file."""
    names = set()
    for node in ast.walk(tree):
        if isinstance(node, (ast.FunctionDef, ast.Lambda)):
            names |= {inner.arg for inner in ast.walk(node) if isinstance(inner, ast.arg)}
            names |= {inner.id for inner in ast.walk(node)
                      if isinstance(inner, ast.Name) and isinstance(inner.ctx, ast.Store)}
            names |= {inner.name for inner in ast.walk(node) if isinstance(inner, ast.ExceptHandler) and inner.name}
    return names


def attributes(tree):
    return {node.attr for node in ast.walk(tree) if isinstance(node, ast.Attribute)}


def parsed():
    """Of each file its name, its text and its tree."""
    texts = [(path.name, path.read_text(encoding="utf-8")) for path in sources()]
    return [(name, text, ast.parse(text)) for name, text in texts]


class FormTest(unittest.TestCase):
    def test_the_folder_holds_python_files_alone(self):
        names = [str(path.relative_to(PACKAGE)) for path in sources()]
        self.assertIn("__init__.py", names)
        for name in names:
            self.assertRegex(name, r"^([a-z0-9]+|__init__)\.py$")

    def test_signs_and_sizes(self):
        for file, text, tree in parsed():
            with self.subTest(file=file):
                self.assertRegex(text, r"^[ -~\n]*\Z")
                rows = text.split("\n")
                self.assertLessEqual(len(rows), 400)
                self.assertLessEqual(max(len(row) for row in rows), 120)
                for node in functions(tree):
                    self.assertLessEqual(node.end_lineno - node.lineno + 1, 40, node.name)

    def test_words_that_stand_nowhere(self):
        for file, text, tree in parsed():
            with self.subTest(file=file):
                self.assertIsNone(re.search(WORDS, text))

    def test_nodes(self):
        for file, text, tree in parsed():
            with self.subTest(file=file):
                kinds = {type(node).__name__ for node in ast.walk(tree)}
                self.assertEqual(kinds - NODES, set())

    def test_the_top_and_texts_by_themselves(self):
        allowed = (ast.ImportFrom, ast.FunctionDef, ast.ClassDef, ast.Assign)
        for file, text, tree in parsed():
            with self.subTest(file=file):
                self.assertIsNotNone(ast.get_docstring(tree))
                for node in tree.body[1:]:
                    self.assertIsInstance(node, allowed)
                for node in ast.walk(tree):
                    if isinstance(node, ast.Expr) and node is not tree.body[0]:
                        self.assertIsInstance(node.value, ast.Call)

    def test_imports_name_the_file_that_defines(self):
        for file, text, tree in parsed():
            with self.subTest(file=file):
                for node in ast.walk(tree):
                    if isinstance(node, ast.ImportFrom):
                        self.assertEqual(node.level, 0)
                        self.assertRegex(node.module, r"^springways\.[a-z]+$")
                        origin = ast.parse((ROOT / (node.module.replace(".", "/") + ".py")).read_text())
                        own = bound_names(origin) - imported(origin)
                        for name in node.names:
                            self.assertIn(name.name, own)
                            self.assertIsNone(name.asname)

    def test_names(self):
        for file, text, tree in parsed():
            with self.subTest(file=file):
                bound = bound_names(tree)
                read = {node.id for node in ast.walk(tree) if isinstance(node, ast.Name)}
                self.assertEqual(read - bound - BUILTINS, set())
                self.assertEqual(bound & BUILTINS, set())
                for name in (bound | attributes(tree)) - set(DUNDERS):
                    self.assertRegex(name, r"^[A-Za-z][A-Za-z0-9_]*$")

    def test_methods_are_own_or_allowed(self):
        own = set()
        for file, text, tree in parsed():
            with self.subTest(file=file):
                own |= {node.name for node in functions(tree)}
                own |= {node.attr for node in ast.walk(tree)
                        if isinstance(node, ast.Attribute) and isinstance(node.ctx, ast.Store)}
        for file, text, tree in parsed():
            with self.subTest(file=file):
                self.assertEqual(attributes(tree) - own - METHODS, set())

    def test_no_name_is_a_method_and_a_value(self):
        methods = set()
        values = set()
        for file, text, tree in parsed():
            with self.subTest(file=file):
                for node in ast.walk(tree):
                    if isinstance(node, ast.ClassDef):
                        methods |= {part.name for part in node.body if isinstance(part, ast.FunctionDef)}
                    elif isinstance(node, ast.Attribute) and isinstance(node.ctx, ast.Store):
                        values.add(node.attr)
        self.assertEqual(methods & values, set())

    def test_no_local_is_called_like_a_class_an_import_or_a_name_of_pythons_own(self):
        for file, text, tree in parsed():
            with self.subTest(file=file):
                classes = {node.name for node in tree.body if isinstance(node, ast.ClassDef)}
                self.assertEqual(locals_of(tree) & (classes | imported(tree) | set(dir(builtins))), set())

    def test_names_of_the_top_are_bound_once(self):
        for file, text, tree in parsed():
            with self.subTest(file=file):
                names = sorted(imported(tree))
                for node in tree.body:
                    if isinstance(node, (ast.FunctionDef, ast.ClassDef)):
                        names.append(node.name)
                    elif isinstance(node, ast.Assign):
                        names.append(node.targets[0].id)
                self.assertEqual(len(set(names)), len(names))

    def test_no_two_files_draw_from_one_another(self):
        drawn = {file[:-3]: drawn_from(tree) for file, text, tree in parsed()}
        done = set()
        while len(done) < len(drawn):
            free = {file for file in drawn if file not in done and drawn[file] <= done}
            self.assertNotEqual(free, set(), drawn)
            done |= free

    def test_narrow_forms(self):
        for file, text, tree in parsed():
            with self.subTest(file=file):
                for node in ast.walk(tree):
                    if isinstance(node, ast.Assign):
                        self.assertEqual(len(node.targets), 1)
                        self.assertNotIsInstance(node.targets[0], (ast.Tuple, ast.List))
                    elif isinstance(node, ast.ListComp):
                        self.assertEqual(len(node.generators), 1)
                        self.assertLessEqual(len(node.generators[0].ifs), 1)
                    elif isinstance(node, ast.FormattedValue):
                        self.assertIsInstance(node.value, ast.Name)
                        self.assertIsNone(node.format_spec)
                    elif isinstance(node, ast.Compare) and isinstance(node.ops[0], (ast.Is, ast.IsNot)):
                        self.assertIsInstance(node.comparators[0], ast.Constant)
                    elif isinstance(node, (ast.For, ast.While, ast.Try)):
                        self.assertEqual(getattr(node, "finalbody", []), [])
                        self.assertTrue(isinstance(node, ast.Try) or node.orelse == [])
                    elif isinstance(node, ast.Constant) and isinstance(node.value, str):
                        self.assertNotIn("%", node.value)

    def test_arguments_are_plain(self):
        for file, text, tree in parsed():
            with self.subTest(file=file):
                for node in functions(tree):
                    self.assertEqual(node.decorator_list, [])
                    rest = (node.args.vararg, node.args.kwarg, node.args.kwonlyargs, node.args.posonlyargs)
                    self.assertEqual(rest, (None, None, [], []))


if __name__ == "__main__":
    unittest.main()
