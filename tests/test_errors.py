"""Promises [8] and [10]: the error classes and their attributes."""

import unittest

from rangepools import errors
from rangepools.ratios import Ratio

PLAIN = ["ByZero", "BadText", "BadRange", "Lacking", "BadRoute", "BadSplit", "BadRing", "TooMuch", "UnlikeFees",
         "BadPrices", "NothingToUndo", "NothingToRedo"]
GIVEN = ["BadNumber", "BadSize", "BadRoot", "BadFee", "BadGood", "BadAmount", "NoWay", "BadName", "InUse",
         "NoPosition", "NoPool", "BadWeb", "NoGood", "BadShare", "BadDeed", "Short"]
VALUES = [None, True, False, 0, -7, 10 ** 60, Ratio(-2, 5), "", "1/2", [], [1, [2]], (), ("sell", "a"), {}, {"a": 1}]


class ErrorClasses(unittest.TestCase):
    def test_pool_error_is_a_direct_subclass_of_value_error(self):
        self.assertEqual(errors.PoolError.__bases__, (ValueError,))

    def test_all_errors_are_direct_subclasses_of_pool_error(self):
        for name in PLAIN + GIVEN + ["BadLine"]:
            with self.subTest(name):
                self.assertEqual(getattr(errors, name).__bases__, (errors.PoolError,))

    def test_there_are_no_other_errors(self):
        found = [name for name, value in vars(errors).items() if isinstance(value, type)]
        self.assertEqual(sorted(found), sorted(PLAIN + GIVEN + ["BadLine", "PoolError"]))

    def test_errors_are_different_classes_with_their_own_names(self):
        classes = [getattr(errors, name) for name in PLAIN + GIVEN + ["BadLine"]]
        self.assertEqual(len(set(classes)), 29)
        self.assertEqual([one.__name__ for one in classes], PLAIN + GIVEN + ["BadLine"])


class ErrorAttributes(unittest.TestCase):
    def test_plain_errors_are_created_without_values(self):
        for name in PLAIN:
            with self.subTest(name):
                error = getattr(errors, name)()
                self.assertIsInstance(error, errors.PoolError)
                self.assertFalse(hasattr(error, "given"))
                self.assertFalse(hasattr(error, "line"))

    def test_given_is_kept_by_position_and_by_name(self):
        for name in GIVEN:
            for value in VALUES:
                with self.subTest(name, value=value):
                    kind = getattr(errors, name)
                    self.assertIs(kind(value).given, value)
                    self.assertIs(kind(given=value).given, value)
                    self.assertFalse(hasattr(kind(value), "line"))

    def test_line_is_kept_by_position_and_by_name(self):
        for value in VALUES:
            with self.subTest(value=value):
                self.assertIs(errors.BadLine(value).line, value)
                self.assertIs(errors.BadLine(line=value).line, value)
                self.assertFalse(hasattr(errors.BadLine(value), "given"))

    def test_errors_with_an_attribute_ask_for_exactly_one_value(self):
        for name in GIVEN + ["BadLine"]:
            with self.subTest(name):
                self.assertRaises(TypeError, getattr(errors, name))
                self.assertRaises(TypeError, getattr(errors, name), 1, 2)

    def test_errors_can_be_raised_and_caught(self):
        for name in PLAIN + GIVEN + ["BadLine"]:
            with self.subTest(name):
                kind = getattr(errors, name)
                values = [] if name in PLAIN else [("a", 1)]
                with self.assertRaises(errors.PoolError):
                    raise kind(*values)
                self.assertIsInstance(str(kind(*values)), str)


if __name__ == "__main__":
    unittest.main()
