"""Promise 3: the error classes."""

import inspect
import unittest

from refold import errors

NAMES = [
    "InvalidPage",
    "InvalidWidth",
    "InvalidNumber",
    "InvalidCommand",
    "NothingToUndo",
    "Unreadable",
]
CLASSES = [getattr(errors, name) for name in NAMES]


class ErrorsTest(unittest.TestCase):
    def test_fold_error_is_a_direct_value_error(self):
        self.assertEqual(errors.FoldError.__bases__, (ValueError,))
        self.assertIsInstance(errors.FoldError("text"), ValueError)

    def test_each_other_one_is_a_direct_fold_error(self):
        for cls in CLASSES:
            self.assertEqual(cls.__bases__, (errors.FoldError,), cls)

    def test_none_is_a_subclass_of_another_one(self):
        for first in CLASSES:
            for second in CLASSES:
                if first is not second:
                    self.assertFalse(issubclass(first, second))

    def test_there_are_no_further_classes(self):
        found = [
            name
            for name, item in vars(errors).items()
            if inspect.isclass(item) and issubclass(item, Exception)
        ]
        self.assertEqual(sorted(found), sorted(["FoldError"] + NAMES))

    def test_each_is_defined_here(self):
        for cls in CLASSES + [errors.FoldError]:
            self.assertEqual(cls.__module__, "refold.errors")
        for cls in CLASSES:
            self.assertIn("__init__", vars(cls))

    def test_value_by_position(self):
        for cls in CLASSES:
            for value in (0, 7, None, "10 > 0", [1], 10**40):
                self.assertIs(cls(value).value, value)

    def test_value_by_name(self):
        for cls in CLASSES:
            for value in (0, 7, None, "10 > 0", [1], 10**40):
                self.assertIs(cls(value=value).value, value)

    def test_exactly_one_argument(self):
        for cls in CLASSES:
            with self.assertRaises(TypeError):
                cls()
            with self.assertRaises(TypeError):
                cls(1, 2)
            with self.assertRaises(TypeError):
                cls(1, value=2)
            with self.assertRaises(TypeError):
                cls(index=1)

    def test_raised_and_caught(self):
        for cls in CLASSES:
            for base in (cls, errors.FoldError, ValueError):
                with self.assertRaises(base) as caught:
                    raise cls(5)
                self.assertEqual(caught.exception.value, 5)


if __name__ == "__main__":
    unittest.main()
