"""What ../shared/LANGUAGE.md and the interface ask of the files themselves, as far as it can be counted."""

import ast
import importlib
import inspect
import unittest
from pathlib import Path

FOLDER = Path(__file__).resolve().parent.parent / "calmlists"
# In the order of the document: each module needs only those listed ahead of it.
MODULES = (
    "limits", "errors", "rolls", "threes", "crowds", "most", "widening", "rows", "dropping", "desks", "checker",
    "certificates", "console",
)
LIBRARY = {"itertools": ("combinations", "permutations")}
CLASSES = {
    "rolls": {
        "Roll": {
            "__init__": "self orders", "read": "text", "orders": None, "things": None, "__len__": "self",
            "__str__": "self", "__contains__": "self x", "__eq__": "self other", "more": "self order",
            "without": "self order"},
    },
    "crowds": {
        "Crowd": {
            "__init__": "self roll numbers", "roll": None, "numbers": None, "people": None, "__eq__": "self other",
            "above": "self thing other", "beats": "self thing other", "some_round": "self", "winner": "self",
            "ties": "self", "order": "self", "agreeing": "self", "joined": "self order many"},
    },
    "desks": {
        "Desk": {
            "__init__": "self roll", "roll": None, "promises": None, "changes": None, "__eq__": "self other",
            "put": "self order", "take": "self order", "promise": "self wish", "lift": "self index", "undo": "self",
            "trial": "self", "tried": "self action"},
    },
    "console": {"Console": {"__init__": "self roll", "desk": None, "say": "self command"}},
}
FUNCTIONS = {
    "threes": {
        "threes": "roll", "upon": "order three", "places": "roll three", "wheel_in": "roll three", "is_calm": "roll",
        "rough": "roll"},
    "most": {
        "of_three": "roll orders", "is_closed": "roll", "is_spoken": "roll", "open_three": "roll",
        "unspoken_three": "roll", "hull": "roll"},
    "widening": {
        "wider": "roll", "is_full": "roll", "full": "roll", "all_full": "roll", "kept": "things rules"},
    "rows": {
        "unlike": "one other", "row": "roll", "is_row": "roll orders", "between": "roll one other", "person": "crowd"},
    "dropping": {"least_out": "roll"},
    "checker": {"accepts": "claim certificate"},
    "certificates": {
        "certify": "roll", "certify_closed": "roll", "certify_spoken": "roll", "certify_full": "roll",
        "certify_crowd": "crowd"},
}


def sources():
    return [(path, path.read_text("utf-8")) for path in sorted(FOLDER.glob("*.py"))]


def imported(tree):
    """All modules that are imported from, and the names."""
    nodes = [node for node in ast.walk(tree) if isinstance(node, ast.ImportFrom)]
    return [(node.module, name.name) for node in nodes for name in node.names]


def defined(name):
    """The names that a module defines itself."""
    rows = ast.parse((FOLDER / f"{name}.py").read_text("utf-8")).body
    found = [row.name for row in rows if isinstance(row, (ast.FunctionDef, ast.ClassDef))]
    return [*found, *[target.id for row in rows if isinstance(row, ast.Assign) for target in row.targets]]


def named(function):
    """The parameters of a function, with blanks between them."""
    return " ".join(inspect.signature(function).parameters)


class FilesTest(unittest.TestCase):
    def test_nothing_but_the_modules(self):
        found = [path.name for path in FOLDER.iterdir() if path.name != "__pycache__"]
        self.assertEqual(sorted(found), sorted(["__init__.py", *[f"{name}.py" for name in MODULES]]))

    def test_characters_and_sizes(self):
        for path, text in sources():
            with self.subTest(path=path.name):
                self.assertEqual([sign for sign in text if sign != "\n" and not " " <= sign <= "~"], [])
                self.assertLessEqual(max(len(line) for line in text.split("\n")), 120)
                self.assertLessEqual(len(text.split("\n")), 399)

    def test_sizes_of_functions(self):
        for path, text in sources():
            for node in ast.walk(ast.parse(text)):
                if isinstance(node, ast.FunctionDef):
                    with self.subTest(path=path.name, name=node.name):
                        self.assertLessEqual(node.end_lineno - node.lineno + 1, 40)

    def test_imports_only_from_modules_ahead(self):
        for at, name in enumerate(MODULES):
            tree = ast.parse((FOLDER / f"{name}.py").read_text("utf-8"))
            with self.subTest(name=name):
                ahead = [f"calmlists.{each}" for each in MODULES[:at]]
                others = [each for each in imported(tree) if each[0] not in ahead]
                self.assertEqual([each for each in others if each[1] not in LIBRARY.get(each[0], ())], [])
                self.assertEqual([node for node in ast.walk(tree) if isinstance(node, ast.Import)], [])


    def test_imports_name_the_file_that_defines_the_name(self):
        for name in MODULES:
            for module, each in imported(ast.parse((FOLDER / f"{name}.py").read_text("utf-8"))):
                if module not in LIBRARY:
                    with self.subTest(name=name, each=each):
                        self.assertIn(each, defined(module.split(".")[1]))


class InterfaceTest(unittest.TestCase):
    def test_classes_and_methods_are_defined_where_they_are_listed(self):
        for name, classes in CLASSES.items():
            module = importlib.import_module(f"calmlists.{name}")
            for each, methods in classes.items():
                listed = getattr(module, each)
                self.assertEqual(listed.__module__, f"calmlists.{name}")
                for method, parameters in methods.items():
                    with self.subTest(method=f"{each}.{method}"):
                        self.assertIn(method, vars(listed))
                        if parameters is None:
                            self.assertIsInstance(vars(listed)[method], property)
                        else:
                            self.assertEqual(named(getattr(listed, method)), parameters)

    def test_functions_are_defined_where_they_are_listed(self):
        for name, functions in FUNCTIONS.items():
            module = importlib.import_module(f"calmlists.{name}")
            for each, parameters in functions.items():
                with self.subTest(function=each):
                    self.assertEqual(getattr(module, each).__module__, f"calmlists.{name}")
                    self.assertEqual(named(getattr(module, each)), parameters)


if __name__ == "__main__":
    unittest.main()
