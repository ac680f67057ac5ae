"""What can be seen at once of the rules for the package's code."""

import ast
import builtins
import pathlib
import re
import unittest

FOLDER = pathlib.Path(__file__).resolve().parent.parent / "samelayout"
BUILTINS = set("""
    len range enumerate zip min max sum abs sorted reversed int str bool bytes list tuple dict set isinstance ord repr
    any all divmod iter next super property staticmethod classmethod Exception ValueError TypeError KeyError IndexError
    LookupError ZeroDivisionError ArithmeticError OverflowError RuntimeError NotImplementedError AttributeError
    StopIteration NotImplemented
""".split())
WORDS = re.compile(r"\b(type|typing|typing_extensions|enum|Enum|IntEnum|StrEnum|Flag|IntFlag|Generic|Protocol|ABC"
                   r"|ABCMeta|namedtuple|NamedTuple|TypedDict|TYPE_CHECKING|abstractmethod)\b"
                   r"|dataclass|overload|contextmanager")
BARRED = (ast.Global, ast.AsyncFunctionDef, ast.AsyncFor, ast.AsyncWith, ast.Await, ast.Import, ast.Div, ast.MatMult)
DOUBLE = re.compile(r"__[a-z]+__")


def sources():
    return {path: path.read_text(encoding="utf-8") for path in sorted(FOLDER.glob("*.py"))}


def nodes():
    return [(path, node) for path, source in sources().items() for node in ast.walk(ast.parse(source))]


class LanguageTest(unittest.TestCase):

    def test_files(self):
        names = [path.name for path in FOLDER.iterdir() if path.name != "__pycache__"]
        self.assertIn("__init__.py", names)
        for name in names:
            self.assertRegex(name, r"\A(__init__|[a-z][a-z0-9_]*)\.py\Z")

    def test_characters_and_words(self):
        for path, source in sources().items():
            self.assertRegex(source, r"\A[ -~\n]*\Z", path)
            self.assertIsNone(WORDS.search(source), path)

    def test_sizes(self):
        for path, source in sources().items():
            lines = source.split("\n")
            self.assertLessEqual(len(lines), 400, path)
            self.assertLessEqual(max(map(len, lines)), 120, path)
        for path, node in nodes():
            if isinstance(node, ast.FunctionDef):
                self.assertLessEqual(node.end_lineno - node.lineno + 1, 40, (path, node.name))

    def test_imports(self):
        for path, node in nodes():
            if isinstance(node, ast.ImportFrom):
                self.assertEqual(node.level, 0, path)
                self.assertRegex(node.module, r"\Asamelayout\.[a-z_]+\Z", path)

    def test_names(self):
        for path, node in nodes():
            names = [getattr(node, field, None) for field in ("id", "name", "arg", "attr")]
            for name in [name for name in names if isinstance(name, str)]:
                self.assertTrue(DOUBLE.fullmatch(name) or not name.startswith("_"), (path, name))

    def test_builtins(self):
        for path, node in nodes():
            if isinstance(node, ast.Name) and hasattr(builtins, node.id):
                self.assertIn(node.id, BUILTINS, path)
                self.assertIsInstance(node.ctx, ast.Load, (path, node.id))
            if isinstance(node, ast.arg):
                self.assertFalse(hasattr(builtins, node.arg), (path, node.arg))

    def test_statements_and_literals(self):
        for path, node in nodes():
            self.assertNotIsInstance(node, BARRED, path)
            if isinstance(node, ast.Constant):
                self.assertIn(type(node.value), (int, str, bytes, bool, type(None)), path)
                self.assertFalse(isinstance(node.value, str) and "%" in node.value, path)

    def test_no_name_hides_an_import_or_a_class(self):
        for path, source in sources().items():
            tree = ast.parse(source)
            taken = {node.name for node in tree.body if isinstance(node, (ast.ClassDef, ast.FunctionDef))}
            for node in tree.body:
                if isinstance(node, ast.ImportFrom):
                    taken |= {alias.asname or alias.name for alias in node.names}
            for node in ast.walk(tree):
                if isinstance(node, ast.arg):
                    self.assertNotIn(node.arg, taken, path)
                if isinstance(node, ast.Name) and isinstance(node.ctx, ast.Store):
                    self.assertNotIn(node.id, taken, path)

    def test_no_name_is_a_method_and_an_attribute(self):
        methods = {row.name for path, node in nodes() if isinstance(node, ast.ClassDef)
                   for row in node.body if isinstance(row, ast.FunctionDef)}
        assigned = {node.attr for path, node in nodes()
                    if isinstance(node, ast.Attribute) and isinstance(node.ctx, ast.Store)}
        self.assertEqual(methods & assigned, set())
        # Lists and strings have these, so that no attribute may be called so.
        self.assertEqual(assigned & {*dir(list), *dir(dict), "encode", "format"} - {"count", "index", "copy"}, set())
        self.assertEqual(methods & {*dir(str), *dir(list), *dir(dict), *dir(int)} - {"__init__", "__len__", "__eq__"},
                         set())

    def test_what_a_class_with_equality_bars(self):
        for path, node in nodes():
            self.assertNotIsInstance(node, ast.GeneratorExp, path)
            if isinstance(node, ast.Attribute):
                self.assertNotEqual(node.attr, "sort", path)

    def test_imports_are_used_and_go_one_way(self):
        seen = {}
        for path, source in sources().items():
            tree = ast.parse(source)
            used = {node.id for node in ast.walk(tree) if isinstance(node, ast.Name)}
            imports = [node for node in tree.body if isinstance(node, ast.ImportFrom)]
            for node in imports:
                self.assertTrue({alias.name for alias in node.names} <= used, (path, node.module))
            seen[path.stem] = {node.module.split(".")[1] for node in imports}
        while seen:
            free = [name for name, others in seen.items() if not others & set(seen)]
            self.assertTrue(free, seen)
            seen = {name: others for name, others in seen.items() if name not in free}
