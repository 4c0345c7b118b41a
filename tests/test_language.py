"""The files of the package keep to those rules of the language subset that are easily checked."""

import ast
import builtins
import pathlib
import re
import unittest

from evenfailover import errors

PACKAGE = pathlib.Path(__file__).resolve().parent.parent / "evenfailover"
BARRED_WORDS = (
    "type typing typing_extensions enum Enum IntEnum StrEnum Flag IntFlag Generic Protocol ABC "
    "ABCMeta namedtuple NamedTuple TypedDict TYPE_CHECKING abstractmethod"
).split()
BARRED_PARTS = ("dataclass", "overload", "contextmanager")
BARRED_NODES = (ast.Global, ast.AsyncFunctionDef, ast.Import, ast.Div, ast.GeneratorExp, ast.Yield, ast.JoinedStr)
BUILTINS = (
    "len range enumerate zip min max sum abs sorted reversed int str bool list tuple dict set "
    "isinstance ord repr any all divmod ValueError"
).split()
METHODS = (
    "append clear copy count endswith extend find get index insert isalnum isalpha isdigit islower "
    "isspace isupper items join keys ljust lower lstrip partition pop remove replace reverse rfind "
    "rjust rpartition rsplit rstrip setdefault split splitlines startswith strip update upper values "
    "zfill bit_length isascii add discard"
).split()


def sources():
    return [(path.name, path.read_text(encoding="utf-8")) for path in sorted(PACKAGE.glob("*.py"))]


def names_bound(tree):
    """Return the names that functions, classes, parameters and assignments bind."""
    names = []
    for node in ast.walk(tree):
        if isinstance(node, (ast.FunctionDef, ast.ClassDef)):
            names.append(node.name)
        if isinstance(node, ast.arg):
            names.append(node.arg)
        if isinstance(node, ast.Name) and isinstance(node.ctx, ast.Store):
            names.append(node.id)
    return names


def trees():
    return [(name, ast.parse(text)) for name, text in sources()]


def methods_and_attributes():
    """Return the names of the methods of all classes and the names of all attributes that are assigned."""
    methods, attributes = set(), set()
    for name, tree in trees():
        for node in ast.walk(tree):
            if isinstance(node, ast.ClassDef):
                methods.update([part.name for part in node.body if isinstance(part, ast.FunctionDef)])
            if isinstance(node, ast.Attribute) and isinstance(node.ctx, ast.Store):
                attributes.add(node.attr)
    return methods, attributes


class Language(unittest.TestCase):
    def test_folder_contains_only_source_files(self):
        names = [path.name for path in PACKAGE.iterdir() if path.name != "__pycache__"]
        self.assertIn("__init__.py", names)
        for name in names:
            self.assertTrue(name == "__init__.py" or re.fullmatch("[a-z][a-z0-9_]*[.]py", name), name)

    def test_characters_and_sizes(self):
        for name, text in sources():
            self.assertEqual(re.sub("[ -~\n]", "", text), "", name)
            lines = text.split("\n")
            self.assertLessEqual(len(lines), 399, name)
            self.assertLessEqual(max([len(line) for line in lines]), 120, name)

    def test_barred_words(self):
        for name, text in sources():
            self.assertEqual(sorted(set(re.findall("[A-Za-z_]+", text)) & set(BARRED_WORDS)), [], name)
            self.assertEqual([part for part in BARRED_PARTS if part in text], [], name)

    def test_imports(self):
        for name, text in sources():
            for node in ast.walk(ast.parse(text)):
                if isinstance(node, ast.ImportFrom):
                    self.assertEqual(node.level, 0, name)
                    self.assertRegex(node.module, "^(evenfailover[.][a-z_]+|__future__)$", name)

    def test_functions_are_short(self):
        for name, text in sources():
            for node in ast.walk(ast.parse(text)):
                if isinstance(node, ast.FunctionDef):
                    self.assertLessEqual(node.end_lineno - node.lineno + 1, 40, (name, node.name))

    def test_nodes_that_are_not_used(self):
        for name, text in sources():
            for node in ast.walk(ast.parse(text)):
                self.assertNotIsInstance(node, BARRED_NODES, name)
                if isinstance(node, ast.Constant):
                    self.assertNotIsInstance(node.value, (float, complex), name)

    def test_plain_names(self):
        for name, text in sources():
            for bound in names_bound(ast.parse(text)):
                if not re.fullmatch("__[a-z]+__", bound):
                    self.assertFalse(bound.startswith("_"), (name, bound))
                    self.assertNotIn(bound, dir(builtins), name)

    def test_no_name_is_a_method_and_an_attribute(self):
        methods, attributes = methods_and_attributes()
        self.assertEqual(methods & attributes, set())
        for name, tree in trees():
            for node in ast.walk(tree):
                if isinstance(node, ast.Attribute):
                    self.assertIn(node.attr, methods | attributes | set(METHODS), name)

    def test_only_own_errors_are_caught(self):
        for name, tree in trees():
            for node in ast.walk(tree):
                if isinstance(node, ast.ExceptHandler):
                    kinds = node.type.elts if isinstance(node.type, ast.Tuple) else [node.type]
                    for kind in kinds:
                        self.assertEqual(getattr(errors, kind.id).__module__, "evenfailover.errors", name)

    def test_builtins(self):
        for name, tree in trees():
            for node in ast.walk(tree):
                if isinstance(node, ast.Name) and node.id in dir(builtins):
                    self.assertIn(node.id, BUILTINS, name)

    def test_is_stands_with_none_only(self):
        for name, tree in trees():
            for node in ast.walk(tree):
                if isinstance(node, ast.Compare) and isinstance(node.ops[0], (ast.Is, ast.IsNot)):
                    self.assertIsInstance(node.comparators[0], ast.Constant, name)

    def test_no_variable_has_the_name_of_an_import_or_a_class(self):
        for name, tree in trees():
            taken = {node.name for node in ast.walk(tree) if isinstance(node, ast.ClassDef)}
            for node in ast.walk(tree):
                if isinstance(node, ast.ImportFrom):
                    taken.update([part.asname or part.name for part in node.names])
            for node in ast.walk(tree):
                if isinstance(node, ast.arg):
                    self.assertNotIn(node.arg, taken, name)
                if isinstance(node, ast.Name) and isinstance(node.ctx, ast.Store):
                    self.assertNotIn(node.id, taken, name)

    def test_strings_contain_no_percent_sign(self):
        for name, text in sources():
            for node in ast.walk(ast.parse(text)):
                if isinstance(node, ast.Constant) and isinstance(node.value, str):
                    self.assertNotIn("%", node.value, name)
            self.assertNotIn("**", text, name)
            self.assertNotIn(".sort(", text, name)

    def test_imports_make_no_circle(self):
        above = {}
        for name, tree in trees():
            above[name[:-3]] = [
                node.module.split(".")[1]
                for node in ast.walk(tree) if isinstance(node, ast.ImportFrom) and "." in node.module
            ]
        while above:
            free = [name for name in above if not any(other in above for other in above[name])]
            self.assertTrue(free, above)
            for name in free:
                del above[name]


if __name__ == "__main__":
    unittest.main()
