"""The form of the package's files: the rules that a short test can see."""

import ast
import builtins
import pathlib
import re
import unittest

PACKAGE = pathlib.Path(__file__).resolve().parent.parent / "wayguess"
BARRED_WORDS = (
    "type typing typing_extensions enum Enum IntEnum StrEnum Flag IntFlag Generic Protocol ABC ABCMeta namedtuple "
    "NamedTuple TypedDict TYPE_CHECKING abstractmethod"
).split()
BARRED_PARTS = ("dataclass", "overload", "contextmanager")
BUILTINS = (
    "len range enumerate zip min max sum abs sorted reversed int str bool bytes list tuple dict set frozenset "
    "isinstance ord repr any all divmod Exception ValueError TypeError KeyError IndexError LookupError "
    "ZeroDivisionError ArithmeticError OverflowError RuntimeError NotImplementedError AttributeError StopIteration "
    "NotImplemented"
).split()
METHODS_OF_BUILTIN_VALUES = set((
    "append clear copy count endswith extend find get index insert isalnum isalpha isdigit islower isspace "
    "isupper items join keys ljust lower lstrip partition pop remove replace reverse rfind rjust rpartition "
    "rsplit rstrip setdefault split splitlines startswith strip update upper values zfill bit_length"
).split())


def files():
    return sorted(PACKAGE.glob("*.py"))


def names_assigned(tree):
    """All names to which a file gives a meaning."""
    names = set()
    for node in ast.walk(tree):
        if isinstance(node, ast.Name) and isinstance(node.ctx, ast.Store):
            names.add(node.id)
        elif isinstance(node, (ast.FunctionDef, ast.ClassDef)):
            names.add(node.name)
        elif isinstance(node, ast.arg):
            names.add(node.arg)
        elif isinstance(node, ast.ImportFrom):
            names.update(alias.asname or alias.name for alias in node.names)
    return names


class Form(unittest.TestCase):
    def test_nothing_but_plain_files(self):
        for path in PACKAGE.iterdir():
            if path.name != "__pycache__":
                self.assertTrue(re.fullmatch(r"(__init__|[a-z][a-z0-9_]*)\.py", path.name), path.name)
        self.assertTrue((PACKAGE / "__init__.py").is_file())

    def test_sizes_and_signs(self):
        for path in files():
            text = path.read_text(encoding="utf-8")
            self.assertTrue(re.fullmatch(r"[ -~\n]*", text), path.name)
            self.assertLessEqual(len(text.splitlines()), 400, path.name)
            for line in text.splitlines():
                self.assertLessEqual(len(line), 120, (path.name, line))
            for node in ast.walk(ast.parse(text)):
                if isinstance(node, ast.FunctionDef):
                    self.assertLessEqual(node.end_lineno - node.lineno + 1, 40, (path.name, node.name))

    def test_barred_words(self):
        for path in files():
            text = path.read_text(encoding="utf-8")
            for word in BARRED_WORDS:
                self.assertIsNone(re.search(rf"\b{word}\b", text), (path.name, word))
            for part in BARRED_PARTS:
                self.assertNotIn(part, text, path.name)

    def test_imports_are_of_the_package(self):
        for path in files():
            for node in ast.walk(ast.parse(path.read_text(encoding="utf-8"))):
                self.assertNotIsInstance(node, ast.Import, path.name)
                if isinstance(node, ast.ImportFrom):
                    self.assertEqual(node.level, 0, path.name)
                    self.assertTrue(node.module.startswith("wayguess."), (path.name, node.module))

    def test_names(self):
        for path in files():
            tree = ast.parse(path.read_text(encoding="utf-8"))
            known = names_assigned(tree)
            for name in known:
                self.assertFalse(name.startswith("_") and not name.endswith("__"), (path.name, name))
                self.assertNotIn(name, BUILTINS, path.name)
            for node in ast.walk(tree):
                if isinstance(node, ast.Name) and isinstance(node.ctx, ast.Load):
                    self.assertTrue(node.id in known or node.id in BUILTINS, (path.name, node.id))

    def test_no_local_name_is_an_import_a_class_or_a_builtin(self):
        for path in files():
            tree = ast.parse(path.read_text(encoding="utf-8"))
            taken = set(dir(builtins))
            for node in ast.walk(tree):
                if isinstance(node, ast.ImportFrom):
                    taken.update(alias.asname or alias.name for alias in node.names)
                elif isinstance(node, ast.ClassDef):
                    taken.add(node.name)
            for node in ast.walk(tree):
                if isinstance(node, ast.Name) and isinstance(node.ctx, ast.Store):
                    self.assertNotIn(node.id, taken, (path.name, node.lineno))
                elif isinstance(node, ast.arg):
                    self.assertNotIn(node.arg, taken, (path.name, node.lineno))

    def test_methods_and_attributes(self):
        nodes = [node for path in files() for node in ast.walk(ast.parse(path.read_text(encoding="utf-8")))]
        classes = [node for node in nodes if isinstance(node, ast.ClassDef)]
        methods = {part.name for node in classes for part in node.body if isinstance(part, ast.FunctionDef)}
        read = {node.attr for node in nodes if isinstance(node, ast.Attribute)}
        kept = {node.attr for node in nodes if isinstance(node, ast.Attribute) and isinstance(node.ctx, ast.Store)}
        self.assertEqual(methods & kept, set())
        self.assertLessEqual(read - methods - kept, METHODS_OF_BUILTIN_VALUES)
        self.assertEqual((methods | kept) & METHODS_OF_BUILTIN_VALUES, set())

    def test_no_points_and_no_parts_of_numbers(self):
        for path in files():
            for node in ast.walk(ast.parse(path.read_text(encoding="utf-8"))):
                self.assertNotIsInstance(node, (ast.Div, ast.Global, ast.AsyncFunctionDef), path.name)
                if isinstance(node, ast.Constant):
                    self.assertNotIsInstance(node.value, (float, complex), path.name)


if __name__ == "__main__":
    unittest.main()
