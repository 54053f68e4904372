"""The form of the package's files, as far as it can be counted: see LANGUAGE.md, L1 to L28."""

import ast
import unittest
from pathlib import Path

FOLDER = Path(__file__).resolve().parent.parent / "presumebooks"
LIBRARY = ("heapq", "math", "itertools", "collections")
# L17: these do not stand in the code as names or in strings.
WORDS = ("type", "typing", "enum", "Enum", "namedtuple", "dataclass", "overload", "contextmanager")


def texts():
    """The text of each file of the package, by the file's name."""
    return {path.name: path.read_text("utf-8") for path in sorted(FOLDER.glob("*.py"))}


def trees():
    """The syntax tree of each file of the package, by the file's name."""
    return {name: ast.parse(text) for name, text in texts().items()}


def imports(tree):
    """The modules that a file imports from."""
    return [node.module for node in ast.walk(tree) if isinstance(node, ast.ImportFrom)]


class Form(unittest.TestCase):
    def test_the_folder_holds_files_of_python_alone(self):
        names = [path.name for path in FOLDER.iterdir() if path.name != "__pycache__"]
        self.assertEqual(sorted(names), sorted(texts()))

    def test_characters_and_sizes(self):
        for name, text in texts().items():
            self.assertTrue(all(one == "\n" or " " <= one <= "~" for one in text), name)
            self.assertLessEqual(len(text.splitlines()), 399, name)
            self.assertLessEqual(max(map(len, ["", *text.splitlines()])), 120, name)

    def test_functions_are_small(self):
        for name, tree in trees().items():
            for node in ast.walk(tree):
                if isinstance(node, ast.FunctionDef):
                    self.assertLessEqual(node.end_lineno - node.lineno + 1, 40, f"{name}: {node.name}")

    def test_module_level(self):
        for name, tree in trees().items():
            for at, node in enumerate(tree.body):
                docstring = at == 0 and isinstance(node, ast.Expr) and isinstance(node.value, ast.Constant)
                kinds = (ast.ImportFrom, ast.FunctionDef, ast.ClassDef, ast.Assign)
                self.assertTrue(docstring or isinstance(node, kinds), f"{name}: {node.lineno}")

    def test_no_generator_expressions_and_no_plain_imports(self):
        for name, tree in trees().items():
            for node in ast.walk(tree):
                self.assertNotIsInstance(node, (ast.GeneratorExp, ast.Import, ast.Global), name)

    def test_imports_go_one_way(self):
        ahead = {f"presumebooks.{name[:-3]}": imports(tree) for name, tree in trees().items()}
        for found in ahead.values():
            for module in found:
                self.assertTrue(module in ahead or module in LIBRARY, module)
        while ahead:
            free = [name for name in ahead if not any(module in ahead for module in ahead[name])]
            self.assertTrue(free, f"these import from each other: {sorted(ahead)}")
            for name in free:
                del ahead[name]

    def test_words_that_are_not_used(self):
        for name, tree in trees().items():
            for node in ast.walk(tree):
                self.assertNotIn(getattr(node, "id", getattr(node, "attr", None)), WORDS, name)
                if isinstance(node, ast.Constant) and isinstance(node.value, str):
                    self.assertNotIn(chr(37), node.value, name)


if __name__ == "__main__":
    unittest.main()
