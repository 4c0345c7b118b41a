"""The files of the package keep to those rules of the language subset that are easily checked."""

import ast
import builtins
import pathlib
import re
import unittest

PACKAGE = pathlib.Path(__file__).resolve().parent.parent / "evenfailover"
BARRED_WORDS = (
    "type typing typing_extensions enum Enum IntEnum StrEnum Flag IntFlag Generic Protocol ABC "
    "ABCMeta namedtuple NamedTuple TypedDict TYPE_CHECKING abstractmethod"
).split()
BARRED_PARTS = ("dataclass", "overload", "contextmanager")
BARRED_NODES = (ast.Global, ast.AsyncFunctionDef, ast.Import, ast.Div)


def sources():
    return [(path.name, path.read_text(encoding="utf-8")) for path in sorted(PACKAGE.glob("*.py"))]


def names_bound(tree):
    """Return the names that functions, classes, parameters and assignments bind."""
    names = []
    for node in ast.walk(tree):
        if isinstance(node, (ast.FunctionDef, ast.ClassDef)):
            names.append(node.name)
        if isinstance(node, ast.arg):
            names.append(node.arg)
        if isinstance(node, ast.Name) and isinstance(node.ctx, ast.Store):
            names.append(node.id)
    return names


class Language(unittest.TestCase):
    def test_folder_contains_only_source_files(self):
        names = [path.name for path in PACKAGE.iterdir() if path.name != "__pycache__"]
        self.assertIn("__init__.py", names)
        for name in names:
            self.assertTrue(name == "__init__.py" or re.fullmatch("[a-z][a-z0-9_]*[.]py", name), name)

    def test_characters_and_sizes(self):
        for name, text in sources():
            self.assertEqual(re.sub("[ -~\n]", "", text), "", name)
            lines = text.split("\n")
            self.assertLessEqual(len(lines), 399, name)
            self.assertLessEqual(max([len(line) for line in lines]), 120, name)

    def test_barred_words(self):
        for name, text in sources():
            self.assertEqual(sorted(set(re.findall("[A-Za-z_]+", text)) & set(BARRED_WORDS)), [], name)
            self.assertEqual([part for part in BARRED_PARTS if part in text], [], name)

    def test_imports(self):
        for name, text in sources():
            for node in ast.walk(ast.parse(text)):
                if isinstance(node, ast.ImportFrom):
                    self.assertEqual(node.level, 0, name)
                    self.assertRegex(node.module, "^(evenfailover[.][a-z_]+|__future__)$", name)

    def test_functions_are_short(self):
        for name, text in sources():
            for node in ast.walk(ast.parse(text)):
                if isinstance(node, ast.FunctionDef):
                    self.assertLessEqual(node.end_lineno - node.lineno + 1, 40, (name, node.name))

    def test_nodes_that_are_not_used(self):
        for name, text in sources():
            for node in ast.walk(ast.parse(text)):
                self.assertNotIsInstance(node, BARRED_NODES, name)
                if isinstance(node, ast.Constant):
                    self.assertNotIsInstance(node.value, (float, complex), name)

    def test_plain_names(self):
        for name, text in sources():
            for bound in names_bound(ast.parse(text)):
                if not re.fullmatch("__[a-z]+__", bound):
                    self.assertFalse(bound.startswith("_"), (name, bound))
                    self.assertNotIn(bound, dir(builtins), name)


if __name__ == "__main__":
    unittest.main()
