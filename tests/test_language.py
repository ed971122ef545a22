"""What of the program's language can be seen at a glance: files, characters, sizes, imports and words."""

import ast
import builtins
import pathlib
import unittest

FOLDER = pathlib.Path(__file__).parent.parent / "batchlimits"
BUILTINS = (
    "len", "range", "enumerate", "zip", "min", "max", "sum", "abs", "sorted", "reversed", "map", "int", "str", "bool",
    "list", "tuple", "dict", "set", "isinstance", "ord", "repr", "any", "all", "divmod", "iter", "next",
    "ValueError", "TypeError", "KeyError", "IndexError", "LookupError", "ZeroDivisionError", "StopIteration",
    "NotImplemented", "property", "classmethod", "staticmethod",
)

WORDS = ("register", "mro", "elements", "open", "input", "law", "exit", "id", "compile", "vars", "dir", "help")
STRINGS = ("type", "typing", "enum", "Enum", "Flag", "Generic", "Protocol", "ABC", "namedtuple", "dataclass")


def files():
    return sorted(FOLDER.glob("*.py"))


def nodes(path, kinds):
    return [node for node in ast.walk(ast.parse(path.read_text())) if isinstance(node, kinds)]


def bound_names(path):
    """Return the names that a file defines or assigns, without those that it imports."""
    defined = [node.name for node in nodes(path, (ast.FunctionDef, ast.ClassDef))]
    return defined + [node.id for node in nodes(path, ast.Name) if isinstance(node.ctx, ast.Store)]


class LanguageTest(unittest.TestCase):
    def test_the_folder_contains_python_files_alone(self):
        found = [path for path in FOLDER.iterdir() if path.name != "__pycache__"]
        self.assertEqual(sorted(found), files())
        self.assertIn(FOLDER / "__init__.py", found)

    def test_characters_and_sizes(self):
        for path in files():
            lines = path.read_text().split("\n")
            self.assertLessEqual(len(lines) - 1, 399, path.name)
            for at, line in enumerate(lines, start=1):
                with self.subTest(file=path.name, line=at):
                    self.assertLessEqual(len(line), 120)
                    self.assertTrue(all(" " <= letter <= "~" for letter in line))

    def test_functions_are_short(self):
        for path in files():
            for node in nodes(path, ast.FunctionDef):
                with self.subTest(file=path.name, function=node.name):
                    self.assertLessEqual(node.end_lineno - node.lineno + 1, 40)

    def test_imports_are_from_the_files_that_define_the_names(self):
        for path in files():
            self.assertEqual(nodes(path, ast.Import), [], path.name)
            for node in nodes(path, ast.ImportFrom):
                with self.subTest(file=path.name, line=node.lineno):
                    package, _, name = node.module.partition(".")
                    self.assertEqual((package, node.level), ("batchlimits", 0))
                    for alias in node.names:
                        self.assertIn(alias.name, bound_names(FOLDER / f"{name}.py"))

    def test_builtins(self):
        for path in files():
            for node in nodes(path, ast.Name):
                with self.subTest(file=path.name, line=node.lineno, name=node.id):
                    self.assertTrue(node.id in BUILTINS or not hasattr(builtins, node.id))
                    self.assertTrue(isinstance(node.ctx, ast.Load) or not hasattr(builtins, node.id))

    def test_no_floats_and_no_global_state(self):
        for path in files():
            with self.subTest(file=path.name):
                self.assertEqual(nodes(path, (ast.Div, ast.Global, ast.AsyncFunctionDef)), [])
                self.assertFalse([node for node in nodes(path, ast.Constant) if isinstance(node.value, float)])

    def test_names_and_strings(self):
        for path in files():
            names = bound_names(path)
            names += [node.arg for node in nodes(path, ast.arg)] + [node.attr for node in nodes(path, ast.Attribute)]
            strings = [node.value for node in nodes(path, ast.Constant) if isinstance(node.value, str)]
            with self.subTest(file=path.name):
                self.assertEqual(set(names) & set(WORDS), set())
                self.assertFalse([text for text in strings if "\u0025" in text])
                self.assertFalse([text for text in strings if set(text.split()) & set(STRINGS)])

    def test_names_are_bound_once_and_imports_stay(self):
        for path in files():
            tree = ast.parse(path.read_text())
            imported = [alias.name for node in nodes(path, ast.ImportFrom) for alias in node.names]
            own = [node.name for node in tree.body if isinstance(node, (ast.FunctionDef, ast.ClassDef))]
            own += [target.id for node in tree.body if isinstance(node, ast.Assign) for target in node.targets]
            local = [node.arg for node in nodes(path, ast.arg)]
            local += [node.id for node in nodes(path, ast.Name) if isinstance(node.ctx, ast.Store)]
            with self.subTest(file=path.name):
                self.assertEqual(len(set(imported + own)), len(imported + own))
                self.assertEqual(set(local) & set(imported), set())
                # Each import is used.
                used = [node.id for node in nodes(path, ast.Name) if isinstance(node.ctx, ast.Load)]
                self.assertEqual(set(imported) - set(used), set())

    def test_nothing_is_caught_and_no_function_has_decorators(self):
        for path in files():
            with self.subTest(file=path.name):
                self.assertEqual(nodes(path, (ast.Try, ast.With, ast.Lambda)), [])
                for node in ast.parse(path.read_text()).body:
                    self.assertEqual(getattr(node, "decorator_list", []), [])
