"""Those rules of the language document that can be read off the files at a glance."""

import ast
import builtins
import re
import unittest
from pathlib import Path

PACKAGE = Path(__file__).resolve().parent.parent / "shoalmates"
BUILTINS = set(
    "len range enumerate zip min max sum abs sorted reversed int str bool bytes list tuple dict"
    " set frozenset isinstance repr any all divmod ord iter next super property staticmethod"
    " classmethod object float Exception ValueError TypeError KeyError IndexError LookupError"
    " ZeroDivisionError ArithmeticError OverflowError RuntimeError NotImplementedError"
    " AttributeError StopIteration NotImplemented".split()
)
METHODS = set(
    "init eq repr str len enter exit call iter lt le gt ge ne contains getitem setitem".split()
)
BARRED_WORDS = re.compile(
    r"\b(type|typing|typing_extensions|enum|Enum|IntEnum|StrEnum|Flag|IntFlag|Generic|Protocol"
    r"|ABC|ABCMeta|namedtuple|NamedTuple|TypedDict|TYPE_CHECKING|abstractmethod)\b"
    r"|dataclass|overload|contextmanager"
)
BARRED_NODES = (ast.Import, ast.Global, ast.Div, ast.AsyncFunctionDef, ast.Await, ast.AsyncFor,
                ast.AsyncWith)


def package_files():
    return [path for path in sorted(PACKAGE.rglob("*")) if "__pycache__" not in path.parts]


def sources():
    return [(path.name, path.read_text(encoding="utf-8")) for path in package_files()]


def nodes():
    for name, text in sources():
        for node in ast.walk(ast.parse(text)):
            yield name, node


def trees():
    return [(path.stem, ast.parse(path.read_text(encoding="utf-8"))) for path in package_files()]


def bound_in(tree, imported=True):
    """All names that a file binds at module level."""
    names = []
    for node in tree.body:
        if isinstance(node, (ast.FunctionDef, ast.ClassDef)):
            names.append(node.name)
        if isinstance(node, ast.Assign):
            names += [target.id for target in node.targets]
        if isinstance(node, ast.ImportFrom) and imported:
            names += [part.name for part in node.names]
    return names


class LanguageTests(unittest.TestCase):
    def test_files_have_plain_names(self):
        for path in package_files():
            self.assertRegex(path.name, r"^[a-z0-9_]+\.py$")
        self.assertIn("__init__.py", [path.name for path in package_files()])

    def test_characters_and_sizes(self):
        for name, text in sources():
            self.assertRegex(text, r"\A[ -~\n]*\Z", name)
            lines = text.split("\n")
            self.assertLessEqual(len(lines), 400, name)
            self.assertLessEqual(max(len(line) for line in lines), 120, name)

    def test_functions_are_small(self):
        for name, node in nodes():
            if isinstance(node, ast.FunctionDef):
                self.assertLessEqual(node.end_lineno - node.lineno + 1, 40, (name, node.name))

    def test_imports_are_from_the_package(self):
        for name, node in nodes():
            if isinstance(node, ast.ImportFrom):
                self.assertEqual(node.level, 0, name)
                self.assertTrue(node.module.startswith("shoalmates."), (name, node.module))

    def test_barred_words_and_statements(self):
        for name, text in sources():
            self.assertIsNone(BARRED_WORDS.search(text), name)
        for name, node in nodes():
            self.assertNotIsInstance(node, BARRED_NODES, name)

    def test_literals(self):
        for name, node in nodes():
            if isinstance(node, ast.Constant):
                self.assertNotIsInstance(node.value, (float, complex), name)
                if isinstance(node.value, str):
                    self.assertNotIn("%", node.value, name)

    def test_names(self):
        for name, node in nodes():
            if isinstance(node, ast.Name):
                self.assertFalse(node.id.startswith("_"), (name, node.id))
                if hasattr(builtins, node.id):
                    self.assertIn(node.id, BUILTINS, name)
                    self.assertIsInstance(node.ctx, ast.Load, (name, node.id))
            if isinstance(node, ast.arg):
                self.assertFalse(hasattr(builtins, node.arg), (name, node.arg))
            if isinstance(node, ast.FunctionDef) and node.name.startswith("_"):
                self.assertIn(node.name.strip("_"), METHODS, name)

    def test_lists_not_generators(self):
        # A class has __eq__ and __len__, so any, all, sorted and the like take lists.
        for name, node in nodes():
            self.assertNotIsInstance(node, (ast.GeneratorExp, ast.Yield, ast.YieldFrom), name)
            if isinstance(node, ast.Attribute):
                self.assertNotEqual(node.attr, "sort", name)

    def test_no_name_hides_an_import_or_a_function(self):
        for name, tree in trees():
            known = bound_in(tree)
            self.assertEqual(len(known), len(set(known)), name)
            for node in ast.walk(tree):
                if isinstance(node, ast.arg):
                    self.assertNotIn(node.arg, known, name)
                if isinstance(node, ast.FunctionDef):
                    stored = [part.id for part in ast.walk(node)
                              if isinstance(part, ast.Name) and isinstance(part.ctx, ast.Store)]
                    self.assertFalse(set(stored) & set(known), (name, node.name))

    def test_imports_name_the_file_that_defines_them_and_never_go_round(self):
        defined = {path.stem: bound_in(ast.parse(path.read_text(encoding="utf-8")), False)
                   for path in package_files()}
        needed = {}
        for name, tree in trees():
            needed[name] = set()
            for node in tree.body:
                if isinstance(node, ast.ImportFrom):
                    source = node.module.split(".")[1]
                    needed[name].add(source)
                    for part in node.names:
                        self.assertIn(part.name, defined[source], name)
        while needed:
            ready = [name for name, sources_of in needed.items() if not sources_of & set(needed)]
            self.assertTrue(ready, needed)
            for name in ready:
                del needed[name]

    def test_no_name_is_a_method_and_an_attribute(self):
        methods = {part.name for name, node in nodes() if isinstance(node, ast.ClassDef)
                   for part in node.body if isinstance(part, ast.FunctionDef)}
        stored = {node.attr for name, node in nodes()
                  if isinstance(node, ast.Attribute) and isinstance(node.ctx, ast.Store)}
        self.assertFalse(methods & stored)


if __name__ == "__main__":
    unittest.main()
