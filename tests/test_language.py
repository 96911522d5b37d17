"""Holds the package against those rules of LANGUAGE.md that can be seen in its text."""

import ast
import builtins
import pathlib
import re
import unittest
import warnings

FOLDER = pathlib.Path(__file__).resolve().parent.parent / "almostall"

BUILTINS = set(
    "len range enumerate zip min max sum abs sorted reversed int str bool bytes list tuple dict set frozenset "
    "isinstance ord repr any all divmod Exception ValueError TypeError KeyError IndexError LookupError "
    "ZeroDivisionError ArithmeticError OverflowError RuntimeError NotImplementedError AttributeError StopIteration "
    "NotImplemented super property staticmethod classmethod".split()
)
METHODS = set(
    "append clear copy count endswith extend find get index insert isalnum isalpha isdigit islower isspace isupper "
    "items join keys ljust lower lstrip partition pop remove replace reverse rfind rjust rpartition rsplit rstrip "
    "setdefault split splitlines startswith strip update upper values zfill bit_length title capitalize swapcase "
    "casefold center expandtabs removeprefix removesuffix rindex isascii isdecimal isnumeric istitle isidentifier "
    "isprintable translate sort add discard __init__".split()
)
BARRED_NAMES = set("register mro elements open input version_info with_traceback add_note format format_map".split())
BARRED_WORDS = re.compile(
    r"\b(type|typing|typing_extensions|enum|Enum|IntEnum|StrEnum|Flag|IntFlag|Generic|Protocol|ABC|ABCMeta|namedtuple"
    r"|NamedTuple|TypedDict|TYPE_CHECKING|abstractmethod)\b|dataclass|overload|contextmanager"
)
BARRED_NODES = (
    ast.Global, ast.AsyncFunctionDef, ast.AsyncFor, ast.AsyncWith, ast.Await, ast.Import, ast.Div, ast.MatMult,
    ast.TryStar,
)
MODULE_NODES = (ast.ImportFrom, ast.FunctionDef, ast.ClassDef, ast.Assign, ast.Expr)


class Source:
    """One file of the package, taken apart."""

    def __init__(self, path):
        self.path = path
        self.text = path.read_text(encoding="utf-8")
        with warnings.catch_warnings():
            warnings.simplefilter("error")
            compile(self.text, str(path), "exec")
        self.tree = ast.parse(self.text)
        self.nodes = list(ast.walk(self.tree))

    def of(self, *kinds):
        return [node for node in self.nodes if isinstance(node, kinds)]

    def imports(self):
        return [(node.module, name) for node in self.of(ast.ImportFrom) for name in node.names]

    def bound_at_module_level(self):
        found = [name.name for _, name in self.imports()]
        for node in self.tree.body:
            if isinstance(node, (ast.FunctionDef, ast.ClassDef)):
                found.append(node.name)
            if isinstance(node, ast.Assign):
                found.extend([target.id for target in node.targets])
        return found

    def local_names(self):
        arguments = [node.arg for node in self.of(ast.arg)]
        module_level = [target for node in self.tree.body if isinstance(node, ast.Assign) for target in node.targets]
        stored = [node.id for node in self.of(ast.Name)
                  if isinstance(node.ctx, ast.Store) and node not in module_level]
        return arguments + stored


class Language(unittest.TestCase):
    @classmethod
    def setUpClass(cls):
        cls.sources = [Source(path) for path in sorted(FOLDER.rglob("*.py"))]

    def test_files(self):
        for path in FOLDER.iterdir():
            if path.name != "__pycache__":
                self.assertRegex(path.name, r"\A([a-z][a-z0-9_]*|__init__|__main__)\.py\Z")
                self.assertNotIn(path.stem, dir(builtins))
        self.assertTrue((FOLDER / "__init__.py").is_file())

    def test_characters_and_sizes(self):
        for source in self.sources:
            with self.subTest(file=source.path.name):
                self.assertRegex(source.text, r"\A[ -~\n]*\Z")
                lines = source.text.split("\n")
                self.assertLessEqual(len(lines), 400)
                self.assertLessEqual(max(map(len, lines)), 120)
                for node in source.of(ast.FunctionDef, ast.Lambda):
                    self.assertLessEqual(node.end_lineno - node.lineno + 1, 40)

    def test_words(self):
        for source in self.sources:
            with self.subTest(file=source.path.name):
                self.assertIsNone(BARRED_WORDS.search(source.text))

    def test_imports(self):
        texts = {f"almostall.{source.path.stem}": source for source in self.sources}
        for source in self.sources:
            with self.subTest(file=source.path.name):
                for module, name in source.imports():
                    self.assertIn(module, texts)
                    self.assertIsNone(name.asname)
                    self.assertIn(name.name, texts[module].bound_at_module_level())
                    self.assertNotIn(name.name, [other.name for _, other in texts[module].imports()])
        self.refuse_circles({module: {needed for needed, _ in texts[module].imports()} for module in texts})

    def refuse_circles(self, needs):
        left = dict(needs)
        while left:
            free = [module for module in left if not left[module] & set(left)]
            self.assertTrue(free, f"these import one another: {sorted(left)}")
            for module in free:
                del left[module]

    def test_module_level(self):
        for source in self.sources:
            with self.subTest(file=source.path.name):
                for node in source.tree.body:
                    self.assertIsInstance(node, MODULE_NODES)
                bound = source.bound_at_module_level()
                self.assertEqual(len(bound), len(set(bound)))

    def test_statements_and_values(self):
        for source in self.sources:
            with self.subTest(file=source.path.name):
                self.assertEqual(source.of(*BARRED_NODES), [])
                for node in source.of(ast.Constant):
                    self.assertIsInstance(node.value, (int, str, bytes, bool, None.__class__))
                    self.assertNotIn("%", str(node.value))
                for node in source.of(ast.Compare):
                    for operator, right in zip(node.ops, node.comparators):
                        if isinstance(operator, (ast.Is, ast.IsNot)):
                            self.assertIn(ast.unparse(right), ("None", "True", "False"))
                for node in source.of(ast.BinOp):
                    if isinstance(node.op, ast.Pow):
                        self.assertIsInstance(node.right, ast.Constant)

    def test_names(self):
        for source in self.sources:
            with self.subTest(file=source.path.name):
                taken = {name.name for _, name in source.imports()} | {node.name for node in source.of(ast.ClassDef)}
                for name in source.local_names():
                    self.assertFalse(name.startswith("_"))
                    self.assertNotIn(name, dir(builtins))
                    self.assertNotIn(name, taken)
                    self.assertNotIn(name, BARRED_NAMES)
                for node in source.of(ast.Name):
                    if node.id in dir(builtins):
                        self.assertIn(node.id, BUILTINS)

    def test_no_name_is_a_method_and_an_attribute(self):
        methods, attributes, values = set(), set(), set()
        for source in self.sources:
            for node in source.of(ast.ClassDef):
                methods |= {each.name for each in node.body if isinstance(each, ast.FunctionDef)}
                values |= {target.id for each in node.body if isinstance(each, ast.Assign) for target in each.targets}
            attributes |= {node.attr for node in source.of(ast.Attribute) if isinstance(node.ctx, ast.Store)}
        self.assertEqual(methods & attributes, set())
        self.assertEqual(values & (methods | attributes | METHODS), set())
        for source in self.sources:
            with self.subTest(file=source.path.name):
                for node in source.of(ast.Attribute):
                    self.assertIn(node.attr, methods | attributes | values | METHODS)
                    self.assertNotIn(node.attr, BARRED_NAMES)

    def test_nothing_calls_itself(self):
        # Rule L11 bars deep recursion; formulas of whatever size may be handed in again.
        for source in self.sources:
            with self.subTest(file=source.path.name):
                for function in source.of(ast.FunctionDef):
                    called = [ast.unparse(node.func) for node in ast.walk(function) if isinstance(node, ast.Call)]
                    self.assertNotIn(function.name, called)

    def test_raise_makes_its_error_on_the_spot(self):
        for source in self.sources:
            with self.subTest(file=source.path.name):
                for node in source.of(ast.Raise):
                    if node.exc is not None:
                        self.assertIsInstance(node.exc, ast.Call)
                        self.assertIsInstance(node.exc.func, ast.Name)


if __name__ == "__main__":
    unittest.main()
