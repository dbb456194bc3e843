"""The interface: names, arguments and where they are defined; and the form of the files."""

import ast
import importlib
import inspect
import pathlib
import unittest

PACKAGE = pathlib.Path(__file__).resolve().parent.parent / "windowrows"

# Functions and classes with their parameters, and the methods of each class.
# The parameters of a class are None if callers do not make its objects.
FUNCTIONS = {
    "stretches": {"read_stretch": ["text"]},
    "offsets": {"possible": ["rows", "groups", "distance"]},
    "regions": {
        "rows_between": ["low", "high"], "groups_between": ["low", "high"], "keys_between": ["low", "high"],
        "own_row": [], "own_group": [], "ties": [], "every": [], "nothing": [],
        "weights_of": ["region", "number"], "region_of": ["weights"],
    },
    "regiontext": {"read_region": ["text"], "write_region": ["region"]},
    "frames": {"first_frame": ["region"]},
    "lays": {"first_lay": ["table"], "lay_count": ["table"], "lay_at": ["table", "number"], "lay_number": ["lay"]},
    "showing": {"showing": ["scheme", "sort", "offset"]},
    "formulas": {
        "number": ["value"], "count_of": ["sort", "window", "*wanted", "*barred"],
        "sum_of": ["column", "sort", "window", "*wanted", "*barred"], "check": ["scheme", "formula"],
    },
    "formulatext": {"read_formula": ["text"], "write_formula": ["formula"]},
    "named": {
        "row_number": ["sort"], "rank_of": ["sort"], "peer_count": ["sort"], "part_count": ["sort"],
        "running": ["column", "sort"], "moving": ["column", "sort", "before", "after"],
        "shifted": ["column", "sort", "steps"], "own": ["column", "sort"], "rest": ["column", "sort"],
        "total": ["column", "sort"],
    },
    "answers": {"answer": ["lay", "formula", "row"], "answers": ["lay", "formula"]},
    "plans": {"plan_for": ["scheme", "formula"]},
    "boards": {"tried": ["board", "deeds", "name"]},
    "normals": {"normal_of": ["scheme", "formula"], "formula_of": ["normal"]},
    "apart": {
        "alike": ["scheme", "first", "second"], "fewest_rows_apart": ["scheme", "first", "second"],
        "parting": ["scheme", "first", "second"],
    },
    "settled": {
        "row_sorts": ["scheme", "formula"], "settled": ["scheme", "formula"],
        "fewest_rows_to_swing": ["scheme", "formula"], "swing": ["scheme", "formula"],
    },
    "onetable": {"settled_in": ["table", "formula", "row"], "swing_in": ["table", "formula", "row"]},
    "breaks": {
        "keeps_breaks": ["lay", "breaks"], "settled_with": ["facts", "formula", "breaks"],
        "swing_with": ["facts", "formula", "breaks"], "fewest_breaks": ["facts", "sort"],
        "breaks_for": ["facts", "formula"],
    },
    "ceilings": {"ceiling": ["scheme", "formula"], "never_above": ["scheme", "first", "second"]},
    "matching": {"best_matching": ["weights"]},
    "extremes": {"greatest": ["table", "formula", "row"], "least": ["table", "formula", "row"]},
}
CLASSES = {
    "stretches": {
        "Stretch": (["low", "high"], {
            "meet": ["other"], "within": ["other"], "__contains__": None, "__neg__": None, "__eq__": None,
            "__str__": None,
        }),
    },
    "offsets": {
        "Offset": (["rows", "groups", "distance"], {
            "fewest_rows": [], "__neg__": None, "__add__": None, "__eq__": None,
        }),
    },
    "cells": {
        "Cell": (["zone", "rows", "groups", "distance"], {"nearest": [], "__contains__": None, "__eq__": None}),
    },
    "weights": {
        "Weights": (None, {
            "at": ["offset"], "cells": [], "nearest": [], "turn": [], "__add__": None, "__sub__": None,
            "__neg__": None, "__mul__": None, "__rmul__": None, "__eq__": None, "__bool__": None,
        }),
    },
    "regions": {
        "Region": (None, {
            "cells": [], "within": ["other"], "rowless": [], "fewest_rows": [], "__and__": None, "__or__": None,
            "__sub__": None, "__xor__": None, "__invert__": None, "__neg__": None, "__eq__": None,
            "__contains__": None, "__bool__": None,
        }),
    },
    "frames": {
        "Frame": (["unit", "start", "end", "*without"], {"region": [], "before": ["other"], "__eq__": None}),
    },
    "schemes": {
        "Sort": (["name", "key", "*part", "*descending"], {"__eq__": None}),
        "Scheme": (["sorts", "*parts", "*values", "*marks"], {
            "columns": [], "sort_names": [], "sort_named": ["name"], "__eq__": None,
        }),
    },
    "tables": {"Table": (["scheme", "rows"], {"record": ["number"], "__len__": None, "__eq__": None})},
    "lays": {
        "Lay": (["table", "orders"], {
            "order": ["sort"], "offset": ["sort", "row", "other"], "exchanges": [],
            "exchanged": ["sort", "row", "other"], "__eq__": None,
        }),
    },
    "formulas": {
        "Term": (None, {}),
        "Formula": (None, {
            "terms": [], "__add__": None, "__radd__": None, "__sub__": None, "__rsub__": None, "__neg__": None,
            "__mul__": None, "__rmul__": None, "__eq__": None,
        }),
    },
    "plans": {"Plan": (None, {"pieces": [], "__call__": None})},
    "boards": {
        "Board": (["scheme"], {
            "put": ["row"], "take": ["number"], "exchange": ["sort", "row", "other"], "show": ["name", "formula"],
            "hide": ["name"], "undo": [], "redo": [], "formula": ["name"], "shown": ["name"], "names": [],
            "current_lay": [], "trial": [], "__getitem__": None, "__setitem__": None, "__len__": None,
            "__contains__": None,
        }),
    },
    "normals": {
        "Normal": (None, {
            "own": ["marks", "column"], "others": ["part", "marks", "column"], "turns": ["sort", "marks", "column"],
            "components": [], "__sub__": None, "__eq__": None, "__bool__": None,
        }),
    },
    "apart": {"Parting": (None, {})},
    "settled": {"Swing": (None, {})},
    "facts": {
        "Facts": (["scheme", "*unique", "*fixes"], {
            "closure": ["columns"], "chain": ["columns"], "no_twins": ["columns"], "kept_by": ["table"],
        }),
    },
    "ceilings": {"Ceiling": (None, {"pumped": ["times"]})},
    "matching": {"Matching": (None, {})},
    "extremes": {"Extreme": (None, {})},
    "desk": {"Desk": (["scheme"], {"say": ["line"]})},
}


def parameters(function):
    """Return the names of the parameters; a star stands before those that are passed by name."""
    return [
        ("*" if parameter.kind == parameter.KEYWORD_ONLY else "") + parameter.name
        for parameter in inspect.signature(function).parameters.values()
    ]


def module_named(name):
    return importlib.import_module(f"windowrows.{name}")


class Interface(unittest.TestCase):
    def test_functions(self):
        for module_name, functions in FUNCTIONS.items():
            for name, names in functions.items():
                function = getattr(module_named(module_name), name)
                self.assertEqual(parameters(function), names)
                self.assertEqual(function.__module__, f"windowrows.{module_name}")

    def test_classes(self):
        for module_name, classes in CLASSES.items():
            for name, (names, methods) in classes.items():
                own_class = getattr(module_named(module_name), name)
                if names is not None:
                    self.assertEqual(parameters(own_class), names)
                self.assertEqual(own_class.__module__, f"windowrows.{module_name}")
                for method, method_names in methods.items():
                    self.assertIn(method, vars(own_class))
                    if method_names is not None:
                        self.assertEqual(parameters(vars(own_class)[method])[1:], method_names)


class Files(unittest.TestCase):
    def sources(self):
        files = sorted(PACKAGE.rglob("*.py"))
        self.assertTrue(files)
        return [(path, path.read_text(encoding="ascii")) for path in files]

    def test_nothing_but_python_files(self):
        for path in PACKAGE.rglob("*"):
            if "__pycache__" not in path.parts:
                self.assertTrue(path.is_dir() or path.suffix == ".py", path)
        self.assertTrue((PACKAGE / "__init__.py").is_file())

    def test_characters_and_lines(self):
        for path, source in self.sources():
            self.assertTrue(all(letter == "\n" or " " <= letter <= "~" for letter in source), path)
            lines = source.splitlines()
            self.assertLessEqual(len(lines), 399, path)
            self.assertLessEqual(max(len(line) for line in lines), 120, path)

    def test_functions_are_short(self):
        for path, source in self.sources():
            for node in ast.walk(ast.parse(source)):
                if isinstance(node, ast.FunctionDef):
                    self.assertLessEqual(node.end_lineno - node.lineno + 1, 40, (path, node.name))

    def test_imports_only_from_the_package_and_the_library(self):
        for path, source in self.sources():
            for node in ast.walk(ast.parse(source)):
                self.assertNotIsInstance(node, ast.Import, path)
                if isinstance(node, ast.ImportFrom):
                    top = node.module.split(".")[0]
                    self.assertEqual(node.level, 0, path)
                    self.assertIn(top, ("windowrows", "heapq", "math", "itertools"), path)

    def test_no_percent_sign_in_strings(self):
        for path, source in self.sources():
            for node in ast.walk(ast.parse(source)):
                if isinstance(node, ast.Constant) and isinstance(node.value, str):
                    self.assertNotIn("%", node.value, path)


if __name__ == "__main__":
    unittest.main()
