"""What the interface and the rules of the language ask of the files of the package."""

import ast
import pathlib
import unittest

from withincall import nets, states

FOLDER = pathlib.Path(__file__).resolve().parent.parent / "withincall"

METHODS = {
    "Net": ("is_capacity", "slots", "incoming", "outgoing", "upstream", "downstream",
            "without", "summary", "__eq__"),
    "Pipeline": ("__init__", "row", "is_ring", "resized", "mirrored", "summary"),
    "Ring": ("__init__", "is_ring", "resized", "mirrored", "summary"),
}
FUNCTIONS = ("check_state", "load", "condition", "loads", "conditions", "holders", "orphans",
             "is_clean", "mirror_state")
LIBRARY = ("__future__", "heapq", "math", "itertools", "collections")


def source_files():
    return sorted(FOLDER.glob("*.py"))


class TestInterface(unittest.TestCase):

    def test_each_class_stands_in_its_file_with_its_methods(self):
        for name, methods in METHODS.items():
            found = getattr(nets, name)
            self.assertEqual(found.__module__, "withincall.nets")
            for method in methods:
                self.assertIn(method, vars(found), f"{name}.{method}")

    def test_kinds_of_methods(self):
        self.assertIsInstance(vars(nets.Net)["is_capacity"], staticmethod)
        self.assertIsInstance(vars(nets.Net)["slots"], property)
        self.assertIsInstance(vars(nets.Pipeline)["row"], classmethod)

    def test_bases(self):
        self.assertEqual(nets.Pipeline.__bases__, (nets.Net,))
        self.assertEqual(nets.Ring.__bases__, (nets.Net,))

    def test_each_function_stands_in_its_file(self):
        for name in FUNCTIONS:
            self.assertEqual(getattr(states, name).__module__, "withincall.states")


class TestFiles(unittest.TestCase):

    def test_the_folder_holds_python_files_only(self):
        others = [path.name for path in FOLDER.iterdir() if path.suffix != ".py"]
        self.assertIn(others, ([], ["__pycache__"]))
        self.assertTrue((FOLDER / "__init__.py").is_file())

    def test_sizes_and_characters(self):
        for path in source_files():
            text = path.read_bytes().decode("ascii")
            lines = text.split("\n")
            self.assertLessEqual(len(lines), 399, path.name)
            for number, line in enumerate(lines, start=1):
                self.assertLessEqual(len(line), 120, f"{path.name}:{number}")
                self.assertTrue(all(" " <= sign <= "~" for sign in line), f"{path.name}:{number}")

    def test_functions_are_short(self):
        for path in source_files():
            for node in ast.walk(ast.parse(path.read_text())):
                if isinstance(node, ast.FunctionDef):
                    self.assertLessEqual(node.end_lineno - node.lineno + 1, 40, node.name)

    def test_imports_are_of_the_package_by_full_names(self):
        for path in source_files():
            for node in ast.walk(ast.parse(path.read_text())):
                self.assertNotIsInstance(node, ast.Import, path.name)
                if isinstance(node, ast.ImportFrom):
                    self.assertEqual(node.level, 0)
                    allowed = node.module.startswith("withincall.") or node.module in LIBRARY
                    self.assertTrue(allowed, f"{path.name}: {node.module}")
