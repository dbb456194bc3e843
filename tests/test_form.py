"""The interface: names, arguments and where they are defined; and the form of the files."""

import ast
import importlib
import inspect
import pathlib
import unittest

PACKAGE = pathlib.Path(__file__).resolve().parent.parent / "windowrows"

# Functions and classes with their parameters, and the methods of each class.
FUNCTIONS = {
    "stretches": {"read_stretch": ["text"]},
    "offsets": {"possible": ["rows", "groups", "distance"]},
}
CLASSES = {
    "stretches": {
        "Stretch": (["low", "high"], {
            "meet": ["other"], "within": ["other"], "__contains__": None, "__neg__": None, "__eq__": None,
            "__str__": None,
        }),
    },
    "offsets": {
        "Offset": (["rows", "groups", "distance"], {
            "fewest_rows": [], "__neg__": None, "__add__": None, "__eq__": None,
        }),
    },
    "cells": {
        "Cell": (["zone", "rows", "groups", "distance"], {"nearest": [], "__contains__": None, "__eq__": None}),
    },
}


def parameters(function):
    return list(inspect.signature(function).parameters)


def module_named(name):
    return importlib.import_module(f"windowrows.{name}")


class Interface(unittest.TestCase):
    def test_functions(self):
        for module_name, functions in FUNCTIONS.items():
            for name, names in functions.items():
                function = getattr(module_named(module_name), name)
                self.assertEqual(parameters(function), names)
                self.assertEqual(function.__module__, f"windowrows.{module_name}")

    def test_classes(self):
        for module_name, classes in CLASSES.items():
            for name, (names, methods) in classes.items():
                own_class = getattr(module_named(module_name), name)
                self.assertEqual(parameters(own_class), names)
                self.assertEqual(own_class.__module__, f"windowrows.{module_name}")
                for method, method_names in methods.items():
                    self.assertIn(method, vars(own_class))
                    if method_names is not None:
                        self.assertEqual(parameters(vars(own_class)[method])[1:], method_names)


class Files(unittest.TestCase):
    def sources(self):
        files = sorted(PACKAGE.rglob("*.py"))
        self.assertTrue(files)
        return [(path, path.read_text(encoding="ascii")) for path in files]

    def test_nothing_but_python_files(self):
        for path in PACKAGE.rglob("*"):
            if "__pycache__" not in path.parts:
                self.assertTrue(path.is_dir() or path.suffix == ".py", path)
        self.assertTrue((PACKAGE / "__init__.py").is_file())

    def test_characters_and_lines(self):
        for path, source in self.sources():
            self.assertTrue(all(letter == "\n" or " " <= letter <= "~" for letter in source), path)
            lines = source.splitlines()
            self.assertLessEqual(len(lines), 399, path)
            self.assertLessEqual(max(len(line) for line in lines), 120, path)

    def test_functions_are_short(self):
        for path, source in self.sources():
            for node in ast.walk(ast.parse(source)):
                if isinstance(node, ast.FunctionDef):
                    self.assertLessEqual(node.end_lineno - node.lineno + 1, 40, (path, node.name))

    def test_imports_only_from_the_package_and_the_library(self):
        for path, source in self.sources():
            for node in ast.walk(ast.parse(source)):
                self.assertNotIsInstance(node, ast.Import, path)
                if isinstance(node, ast.ImportFrom):
                    top = node.module.split(".")[0]
                    self.assertEqual(node.level, 0, path)
                    self.assertIn(top, ("windowrows", "heapq", "math", "itertools"), path)

    def test_no_percent_sign_in_strings(self):
        for path, source in self.sources():
            for node in ast.walk(ast.parse(source)):
                if isinstance(node, ast.Constant) and isinstance(node.value, str):
                    self.assertNotIn("%", node.value, path)


if __name__ == "__main__":
    unittest.main()
