"""Promise 4: the errors."""

import unittest

from windowrows import errors
from windowrows.errors import WindowError

# The names and attributes are written out here as the interface lists them.
FIELDS = {
    "TurnedStretch": ("low", "high"),
    "BadOffset": ("rows", "groups", "distance"),
    "BadText": ("place",),
    "BadFrame": ("word",),
    "BadScheme": ("word",),
    "UnknownSort": ("name",),
    "UnknownColumn": ("name",),
    "BadRow": ("number", "column"),
    "BadNumber": ("number",),
    "BadLay": ("name",),
    "NotPeers": ("row", "other"),
    "MarkTwice": ("mark",),
    "OtherScheme": (),
    "NoSuchName": ("name",),
    "NothingToUndo": (),
    "NothingToRedo": (),
    "BadUnique": ("index",),
    "BadFix": ("index",),
    "SeveralSorts": (),
    "BadLine": (),
}


class Unprintable:
    """A value that has no text and is equal to nothing."""

    def __str__(self):
        raise RuntimeError("no text")

    __repr__ = __str__

    def __eq__(self, other):
        return False


def error_classes():
    return {name: getattr(errors, name) for name in FIELDS}


class ErrorClasses(unittest.TestCase):
    def test_there_are_twenty_and_no_others(self):
        found = {
            name for name, value in vars(errors).items()
            if isinstance(value, type) and issubclass(value, Exception)
        }
        self.assertEqual(len(FIELDS), 20)
        self.assertEqual(found, set(FIELDS) | {"WindowError"})

    def test_base_class(self):
        self.assertEqual(WindowError.__bases__, (ValueError,))
        self.assertIsInstance(WindowError(), ValueError)
        self.assertIsInstance(WindowError("word", [1], None), ValueError)

    def test_each_is_a_window_error_and_of_no_other_class(self):
        classes = error_classes()
        for name, error_class in classes.items():
            with self.subTest(name):
                error = error_class(*FIELDS[name])
                self.assertIsInstance(error, WindowError)
                self.assertIsInstance(error, ValueError)
                self.assertEqual(error_class.__bases__, (WindowError,))
                for other_name, other in classes.items():
                    self.assertEqual(isinstance(error, other), name == other_name)

    def test_defined_in_the_module_of_the_interface(self):
        for error_class in [WindowError, *error_classes().values()]:
            self.assertEqual(error_class.__module__, "windowrows.errors")


class ErrorAttributes(unittest.TestCase):
    def check_fields(self, values):
        for name, error_class in error_classes().items():
            fields = FIELDS[name]
            given = values[:len(fields)]
            error = error_class(*given)
            for field, value in zip(fields, given):
                with self.subTest(error=name, field=field):
                    self.assertIs(getattr(error, field), value)

    def test_distinct_values_in_the_order_of_the_interface(self):
        self.check_fields([-31, 32, 33])
        self.check_fields(["first", "second", "third"])

    def test_any_values(self):
        self.check_fields([None, True, False])
        self.check_fields([[1], {"a": 2}, (3,)])
        self.check_fields([10 ** 5000, -10 ** 5000, b"x"])
        self.check_fields([Unprintable(), Unprintable(), object()])
        self.check_fields([WindowError("x"), ValueError, len])

    def test_values_are_not_examined(self):
        error = errors.TurnedStretch(1, 2)
        self.assertEqual((error.low, error.high), (1, 2))
        error = errors.BadOffset(0, 0, 0)
        self.assertEqual((error.rows, error.groups, error.distance), (0, 0, 0))

    def test_raised_and_caught(self):
        for name, error_class in error_classes().items():
            for caught in (error_class, WindowError, ValueError):
                with self.subTest(error=name, caught=caught.__name__):
                    with self.assertRaises(caught):
                        raise error_class(*FIELDS[name])

    def test_wrong_number_of_arguments(self):
        for name, error_class in error_classes().items():
            if FIELDS[name]:
                with self.subTest(name), self.assertRaises(TypeError):
                    error_class()


if __name__ == "__main__":
    unittest.main()
