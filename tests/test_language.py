"""The rules of ../shared/LANGUAGE.md that can be seen row by row or node by node."""

import ast
import builtins
import pathlib
import re
import unittest

PACKAGE = pathlib.Path(__file__).resolve().parent.parent / "seatword"
BARRED_WORDS = re.compile(
    r"\b(type|typing|typing_extensions|enum|Enum|IntEnum|StrEnum|Flag|IntFlag|Generic|Protocol|ABC|ABCMeta|"
    r"namedtuple|NamedTuple|TypedDict|TYPE_CHECKING|abstractmethod)\b|dataclass|overload|contextmanager")
BARRED_NAMES = {"register", "mro", "elements", "open", "input", "version_info", "with_traceback", "add_note",
                "format", "format_map"}
USABLE = set("""len range enumerate zip min max sum abs sorted reversed int str bool bytes list tuple dict set
    frozenset isinstance ord repr any all divmod super Exception ValueError TypeError KeyError IndexError LookupError
    ZeroDivisionError ArithmeticError OverflowError RuntimeError NotImplementedError""".split())
BUILTIN_METHODS = set("""append clear copy count endswith extend find get index insert isalnum isalpha isdigit
    islower isspace isupper items join keys ljust lower lstrip partition pop remove replace reverse rfind rjust
    rpartition rsplit rstrip setdefault split splitlines startswith strip update upper values zfill bit_length add
    discard""".split())
BARRED_ATTRIBUTES = set("""items keys values pop update append clear extend insert remove reverse setdefault sort args
    encode decode hex fromhex format""".split())
BARRED_NODES = (ast.Global, ast.AsyncFunctionDef, ast.AsyncFor, ast.AsyncWith, ast.Await, ast.Div)


def files():
    return sorted(path for path in PACKAGE.rglob("*") if path.is_file() and "__pycache__" not in path.parts)


def bound_names(tree):
    for node in ast.walk(tree):
        if isinstance(node, (ast.FunctionDef, ast.ClassDef)):
            yield node.name
        elif isinstance(node, ast.arg):
            yield node.arg
        elif isinstance(node, ast.Name) and isinstance(node.ctx, ast.Store):
            yield node.id
        elif isinstance(node, ast.Attribute):
            yield node.attr


class Language(unittest.TestCase):
    def trees(self):
        for path in files():
            yield path.name, ast.parse(path.read_text(encoding="utf-8"))

    def test_files(self):
        self.assertIn(PACKAGE / "__init__.py", files())
        self.assertLessEqual(len(files()), 100)
        for path in files():
            self.assertRegex(path.name, r"^([a-z][a-z0-9_]*|__init__|__main__)\.py$")
            self.assertNotIn(path.stem, dir(builtins))

    def test_rows_signs_and_words(self):
        for path in files():
            text = path.read_text(encoding="utf-8")
            rows = text.split("\n")
            self.assertLessEqual(len(rows), 400, path.name)
            for at, row in enumerate(rows, 1):
                self.assertLessEqual(len(row), 120, (path.name, at))
                self.assertIsNone(BARRED_WORDS.search(row), (path.name, at))
            self.assertTrue(all(sign == "\n" or " " <= sign <= "~" for sign in text), path.name)

    def test_functions_are_small(self):
        for name, tree in self.trees():
            for node in ast.walk(tree):
                if isinstance(node, ast.FunctionDef):
                    self.assertLessEqual(node.end_lineno - node.lineno + 1, 40, (name, node.name))

    def test_imports(self):
        for name, tree in self.trees():
            imports = [node for node in ast.walk(tree) if isinstance(node, (ast.Import, ast.ImportFrom))]
            self.assertTrue(all(node in tree.body for node in imports), name)
            for node in imports:
                self.assertIsInstance(node, ast.ImportFrom, name)
                self.assertEqual(node.level, 0, name)
                self.assertTrue(node.module == "__future__" or node.module.startswith("seatword."), name)
                self.assertNotIn("*", [alias.name for alias in node.names], name)

    def test_names(self):
        for name, tree in self.trees():
            for word in bound_names(tree):
                self.assertNotIn(word, BARRED_NAMES, name)
                self.assertTrue(not word.startswith("_") or re.fullmatch(r"__[a-z]+__", word), (name, word))
            imported = {alias.name for node in ast.walk(tree) if isinstance(node, ast.ImportFrom)
                        for alias in node.names}
            for node in ast.walk(tree):
                word = node.arg if isinstance(node, ast.arg) else None
                if isinstance(node, ast.Name) and isinstance(node.ctx, ast.Store):
                    word = node.id
                self.assertFalse(word in dir(builtins) or word in imported, (name, word))

    def test_builtins_and_statements(self):
        for name, tree in self.trees():
            for node in ast.walk(tree):
                self.assertNotIsInstance(node, BARRED_NODES, name)
                if isinstance(node, ast.Name) and isinstance(node.ctx, ast.Load) and node.id in dir(builtins):
                    self.assertIn(node.id, USABLE, (name, node.lineno))
                if isinstance(node, ast.Constant):
                    self.assertNotIsInstance(node.value, float, name)
                    self.assertFalse(isinstance(node.value, str) and "%" in node.value, name)

    def test_methods_and_attributes(self):
        methods, attributes, called = set(), set(), set()
        for name, tree in self.trees():
            for node in ast.walk(tree):
                if isinstance(node, ast.ClassDef):
                    own = [inner.name for inner in node.body if isinstance(inner, ast.FunctionDef)]
                    self.assertEqual(len(own), len(set(own)), (name, node.name))
                    methods.update(own)
                elif isinstance(node, ast.Attribute) and isinstance(node.ctx, ast.Store):
                    attributes.add(node.attr)
                elif isinstance(node, ast.Call) and isinstance(node.func, ast.Attribute):
                    called.add(node.func.attr)
        self.assertEqual(methods & attributes, set())
        self.assertEqual(attributes & BARRED_ATTRIBUTES, set())
        self.assertEqual(called - methods - BUILTIN_METHODS, set())

    def test_no_two_files_import_from_each_other(self):
        needs = {name: {node.module.split(".")[1] + ".py" for node in tree.body if isinstance(node, ast.ImportFrom)}
                 for name, tree in self.trees()}
        while needs:
            leaves = [name for name in needs if not needs[name] & set(needs)]
            self.assertTrue(leaves, needs)
            needs = {name: needs[name] for name in needs if name not in leaves}


if __name__ == "__main__":
    unittest.main()
