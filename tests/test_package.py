"""What ../shared/LANGUAGE.md and the interface ask of the files themselves, as far as it can be counted."""

import ast
import importlib
import unittest
from pathlib import Path

FOLDER = Path(__file__).resolve().parent.parent / "calmlists"
# In the order of the document: each module needs only those listed ahead of it.
MODULES = ("limits", "errors", "rolls")
CLASSES = {"rolls": {"Roll": ("__init__", "read", "orders", "things", "__len__", "__str__", "more", "without")}}


def sources():
    return [(path, path.read_text("utf-8")) for path in sorted(FOLDER.glob("*.py"))]


def imported(tree):
    return [node.module for node in ast.walk(tree) if isinstance(node, ast.ImportFrom)]


class FilesTest(unittest.TestCase):
    def test_nothing_but_the_modules(self):
        found = [path.name for path in FOLDER.iterdir() if path.name != "__pycache__"]
        self.assertEqual(sorted(found), sorted(["__init__.py", *[f"{name}.py" for name in MODULES]]))

    def test_characters_and_sizes(self):
        for path, text in sources():
            with self.subTest(path=path.name):
                self.assertEqual([sign for sign in text if sign != "\n" and not " " <= sign <= "~"], [])
                self.assertLessEqual(max(len(line) for line in text.split("\n")), 120)
                self.assertLessEqual(len(text.split("\n")), 399)

    def test_sizes_of_functions(self):
        for path, text in sources():
            for node in ast.walk(ast.parse(text)):
                if isinstance(node, ast.FunctionDef):
                    with self.subTest(path=path.name, name=node.name):
                        self.assertLessEqual(node.end_lineno - node.lineno + 1, 40)

    def test_imports_only_from_modules_ahead(self):
        for at, name in enumerate(MODULES):
            tree = ast.parse((FOLDER / f"{name}.py").read_text("utf-8"))
            with self.subTest(name=name):
                ahead = [f"calmlists.{each}" for each in MODULES[:at]]
                self.assertEqual([each for each in imported(tree) if each not in ahead], [])
                self.assertEqual([node for node in ast.walk(tree) if isinstance(node, ast.Import)], [])


class InterfaceTest(unittest.TestCase):
    def test_classes_and_methods_are_defined_where_they_are_listed(self):
        for name, classes in CLASSES.items():
            module = importlib.import_module(f"calmlists.{name}")
            for each, methods in classes.items():
                listed = getattr(module, each)
                self.assertEqual(listed.__module__, f"calmlists.{name}")
                self.assertEqual([method for method in methods if method not in vars(listed)], [])


if __name__ == "__main__":
    unittest.main()
