"""The limits of form that every file of the package keeps."""

import ast
import os
import unittest

import callsthrough

FOLDER = os.path.dirname(os.path.abspath(callsthrough.__file__))
LIBRARY = {"heapq", "math", "itertools", "collections"}


def sources():
    found = {}
    for name in sorted(os.listdir(FOLDER)):
        if name.endswith(".py"):
            with open(os.path.join(FOLDER, name), encoding="utf-8", newline="") as file:
                found[name] = file.read()
    return found


def imported(tree):
    return [node for node in ast.walk(tree) if isinstance(node, (ast.Import, ast.ImportFrom))]


class FilesTest(unittest.TestCase):

    def test_the_folder_holds_only_files_of_python(self):
        # Python itself may leave its cache there.
        others = [name for name in os.listdir(FOLDER) if not name.endswith(".py") and name != "__pycache__"]
        self.assertEqual(others, [])
        self.assertIn("__init__.py", sources())

    def test_lengths(self):
        for name, text in sources().items():
            self.assertLessEqual(len(text.splitlines()), 399, name)
            for row in text.splitlines():
                self.assertLessEqual(len(row), 120, (name, row))
            for node in ast.walk(ast.parse(text)):
                if isinstance(node, ast.FunctionDef):
                    self.assertLessEqual(node.end_lineno - node.lineno + 1, 40, (name, node.name))

    def test_characters(self):
        for name, text in sources().items():
            self.assertEqual({sign for sign in text if sign != "\n" and not " " <= sign <= "~"}, set(), name)

    def test_imports_name_the_package_or_the_library(self):
        for name, text in sources().items():
            for node in imported(ast.parse(text)):
                self.assertIsInstance(node, ast.ImportFrom, name)
                self.assertEqual(node.level, 0, name)
                self.assertTrue(node.module in LIBRARY or node.module.startswith("callsthrough."), (name, node.module))


if __name__ == "__main__":
    unittest.main()
