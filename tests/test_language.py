"""The package's form: those rules of ../shared/LANGUAGE.md that can be read off the files by themselves."""

import ast
import builtins
import pathlib
import re
import unittest

PACKAGE = pathlib.Path(__file__).resolve().parent.parent / "gluedtables"
TEXTS = [(path.name, path.read_text(encoding="utf-8")) for path in sorted(PACKAGE.iterdir()) if path.suffix == ".py"]
READ = [(name, text, ast.parse(text)) for name, text in TEXTS]
NODES = """
    Module FunctionDef arguments arg ClassDef Return Assign AugAssign For While If Raise Try ExceptHandler ImportFrom
    alias Expr Pass Break Continue BoolOp BinOp UnaryOp Lambda IfExp Dict Set ListComp comprehension Compare Call keyword
    JoinedStr FormattedValue Constant Attribute Subscript Slice Name List Tuple Load Store And Or Add Sub Mult Mod Pow
    FloorDiv LShift RShift BitOr BitXor BitAnd Invert Not UAdd USub Eq NotEq Lt LtE Gt GtE Is IsNot In NotIn
""".split()
METHODS = ["__init__", "__eq__", "__repr__", "__str__", "__len__"]
CALLS = """
    len range enumerate zip min max sum abs sorted reversed int str bool list tuple dict set frozenset isinstance ord
    repr any all divmod Exception ValueError TypeError KeyError IndexError LookupError ZeroDivisionError
    ArithmeticError OverflowError RuntimeError NotImplementedError StopIteration
""".split()
OWN_METHODS = """
    append clear copy count endswith extend find get index insert isalnum isalpha isdigit islower isspace isupper items
    join keys ljust lower lstrip partition pop remove replace reverse rfind rjust rpartition rsplit rstrip setdefault
    split splitlines startswith strip update upper values zfill bit_length
""".split()
KEYWORDS = [("sorted", "key"), ("sorted", "reverse"), ("min", "key"), ("min", "default"), ("max", "key")]
TAKERS = ["list", "tuple", "dict", "sorted", "sum", "any", "all", "enumerate", "zip"]
WORDS = re.compile(
    r"\b(type|typing|typing_extensions|enum|Enum|IntEnum|StrEnum|Flag|IntFlag|Generic|Protocol|ABC|ABCMeta"
    r"|namedtuple|NamedTuple|TypedDict|TYPE_CHECKING|abstractmethod)\b|dataclass|overload|contextmanager"
)


def bound_names(tree):
    """Every name that a file binds: defs, classes, imports, parameters and locals."""
    names = []
    for node in ast.walk(tree):
        if isinstance(node, (ast.FunctionDef, ast.ClassDef)):
            names.append(node.name)
        elif isinstance(node, ast.arg):
            names.append(node.arg)
        elif isinstance(node, ast.alias):
            names.append(node.asname or node.name)
        elif isinstance(node, ast.Name) and isinstance(node.ctx, ast.Store):
            names.append(node.id)
    return names


def top_names(tree):
    """The names that a file binds at its top, by where they come from."""
    defined = [node.name for node in tree.body if isinstance(node, (ast.FunctionDef, ast.ClassDef))]
    for node in tree.body:
        if isinstance(node, ast.Assign):
            defined.extend(target.id for target in node.targets)
    drawn = [each.asname or each.name for node in tree.body if isinstance(node, ast.ImportFrom) for each in node.names]
    return defined, drawn


def is_walker(node):
    """Whether a call gives something that is to be walked on the spot."""
    if isinstance(node.func, ast.Name):
        return node.func.id in ("zip", "enumerate", "reversed", "range")
    return isinstance(node.func, ast.Attribute) and node.func.attr in ("items", "keys", "values")


def drawn_from(tree):
    """The package's files that a file draws from, each with the names."""
    return [
        (node.module.split(".")[1] + ".py", [each.name for each in node.names])
        for node in tree.body if isinstance(node, ast.ImportFrom) and node.module != "__future__"
    ]


class LanguageTest(unittest.TestCase):
    def test_files(self):
        self.assertTrue((PACKAGE / "__init__.py").is_file())
        for path in PACKAGE.iterdir():
            if path.name != "__pycache__":
                self.assertRegex(path.name, r"^[a-z0-9_]+\.py$")

    def test_signs_and_sizes(self):
        for name, text, tree in READ:
            with self.subTest(name):
                self.assertRegex(text, r"\A[ -~\n]*\Z")
                self.assertLessEqual(len(text.splitlines()), 400)
                self.assertLessEqual(max(len(line) for line in text.splitlines()), 120)
                for node in ast.walk(tree):
                    if isinstance(node, ast.FunctionDef):
                        self.assertLessEqual(node.end_lineno - node.lineno + 1, 40, node.name)

    def test_words(self):
        for name, text, tree in READ:
            with self.subTest(name):
                self.assertIsNone(WORDS.search(text))

    def test_forms(self):
        for name, text, tree in READ:
            with self.subTest(name):
                for node in ast.walk(tree):
                    self.assertIn(type(node).__name__, NODES, getattr(node, "lineno", 0))
                    if isinstance(node, ast.Constant):
                        self.assertNotIsInstance(node.value, (float, complex, bytes))
                    if isinstance(node, ast.Assign):
                        self.assertEqual(len(node.targets), 1)
                    if isinstance(node, (ast.For, ast.While)):
                        self.assertEqual(node.orelse, [])
                    if isinstance(node, (ast.FunctionDef, ast.ClassDef)):
                        self.assertEqual(node.decorator_list, [])

    def test_imports(self):
        for name, text, tree in READ:
            with self.subTest(name):
                for node in ast.walk(tree):
                    if isinstance(node, ast.ImportFrom):
                        self.assertIn(node, tree.body)
                        self.assertEqual(node.level, 0)
                        self.assertRegex(node.module, r"^gluedtables\.[a-z0-9_]+$")
                        self.assertTrue((PACKAGE / (node.module.split(".")[1] + ".py")).is_file())

    def test_names_are_drawn_from_the_file_that_defines_them(self):
        defined = {name: top_names(tree)[0] for name, text, tree in READ}
        for name, text, tree in READ:
            for other, words in drawn_from(tree):
                self.assertLessEqual(set(words), set(defined[other]), name)

    def test_no_two_files_draw_from_one_another(self):
        reach = {name: {other for other, words in drawn_from(tree)} for name, text, tree in READ}
        for step in READ:
            for name in reach:
                reach[name] = reach[name].union(*[reach[other] for other in reach[name]])
        for name in reach:
            self.assertNotIn(name, reach[name])

    def test_each_name_once(self):
        for name, text, tree in READ:
            with self.subTest(name):
                defined, drawn = top_names(tree)
                self.assertEqual(len(set(defined + drawn)), len(defined + drawn))
                functions = [node for node in ast.walk(tree) if isinstance(node, ast.FunctionDef)]
                classes = [node.name for node in tree.body if isinstance(node, ast.ClassDef)]
                for node in functions:
                    # The first name that a def binds is its own.
                    for word in bound_names(node)[1:]:
                        self.assertNotIn(word, drawn + classes, node.name)

    def test_walked_at_once(self):
        for name, text, tree in READ:
            parents = {child: node for node in ast.walk(tree) for child in ast.iter_child_nodes(node)}
            for node in ast.walk(tree):
                if isinstance(node, ast.Call) and is_walker(node):
                    above = parents[node]
                    walked = isinstance(above, (ast.For, ast.comprehension)) and above.iter == node
                    called = isinstance(above, ast.Call) and isinstance(above.func, ast.Name)
                    if called and above.func.id in TAKERS:
                        walked = above.func.id == "zip" or above.args[0] == node
                    elif called and above.func.id in ("min", "max"):
                        walked = above.args == [node]
                    self.assertTrue(walked, (name, node.lineno))

    def test_sets_are_not_kept(self):
        for name, text, tree in READ:
            parents = {child: node for node in ast.walk(tree) for child in ast.iter_child_nodes(node)}
            for node in ast.walk(tree):
                if isinstance(node, ast.Call) and isinstance(node.func, ast.Name) and node.func.id == "set":
                    above = parents[node]
                    called = isinstance(above, ast.Call) and above.func.id in ("sorted", "len")
                    self.assertTrue(called or isinstance(above, (ast.Compare, ast.BinOp)), (name, node.lineno))

    def test_methods_and_values(self):
        methods, values = [], []
        for name, text, tree in READ:
            for node in ast.walk(tree):
                if isinstance(node, ast.ClassDef):
                    methods.extend(each.name for each in node.body if isinstance(each, ast.FunctionDef))
                if isinstance(node, ast.Attribute) and isinstance(node.ctx, ast.Store):
                    values.append(node.attr)
        self.assertEqual(set(methods) & set(values), set())
        for word in values + methods:
            for kind in (str, int, list, dict, set, bytes):
                self.assertTrue(word in METHODS or not hasattr(kind, word), word)
        for name, text, tree in READ:
            for node in ast.walk(tree):
                if isinstance(node, ast.Call) and isinstance(node.func, ast.Attribute):
                    self.assertIn(node.func.attr, OWN_METHODS + methods, (name, node.lineno))
                if isinstance(node, ast.Call):
                    for keyword in node.keywords:
                        self.assertIn((node.func.id, keyword.arg), KEYWORDS, (name, node.lineno))

    def test_is_stands_beside_none_and_truths(self):
        for name, text, tree in READ:
            for node in ast.walk(tree):
                if isinstance(node, ast.Compare) and isinstance(node.ops[0], (ast.Is, ast.IsNot)):
                    self.assertIn(ast.unparse(node.comparators[0]), ("None", "True", "False"), (name, node.lineno))

    def test_tops_hold_plain_values(self):
        for name, text, tree in READ:
            for node in tree.body:
                if isinstance(node, ast.Assign):
                    parts = node.value.elts if isinstance(node.value, (ast.Tuple, ast.List)) else [node.value]
                    for part in parts:
                        self.assertIsInstance(part, ast.Constant, (name, node.lineno))

    def test_names(self):
        for name, text, tree in READ:
            with self.subTest(name):
                names = bound_names(tree)
                for word in names:
                    if word not in METHODS:
                        self.assertRegex(word, r"^[A-Za-z][A-Za-z0-9_]*$")
                        self.assertNotIn(word, dir(builtins))
                for node in ast.walk(tree):
                    if isinstance(node, ast.Name) and node.id not in names:
                        self.assertIn(node.id, CALLS, node.lineno)


if __name__ == "__main__":
    unittest.main()
