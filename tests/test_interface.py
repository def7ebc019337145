"""Each name of the interface is defined where the interface lists it, with its arguments."""

import inspect
import unittest

from burstlimits import limits, rows
from burstlimits.limits import Limits

FUNCTIONS = {
    "verdict": ["limits", "row"],
    "shows_verdict": ["limits", "row", "thing"],
    "tightest": ["rows", "length"],
    "learnt": ["rows", "lengths"],
    "merged": ["one", "other"],
}
METHODS = ["__init__", "__len__", "__contains__", "__getitem__", "__call__", "__add__", "__eq__", "__repr__", "text",
           "read", "single", "is_limit", "pairs"]


class Interface(unittest.TestCase):
    def test_functions_of_rows(self):
        for name, arguments in FUNCTIONS.items():
            function = vars(rows)[name]
            self.assertTrue(inspect.isfunction(function), name)
            self.assertEqual(function.__module__, "burstlimits.rows")
            self.assertEqual(list(inspect.signature(function).parameters), arguments)

    def test_class_limits(self):
        self.assertTrue(inspect.isclass(limits.Limits))
        self.assertEqual(Limits.__module__, "burstlimits.limits")
        for name in METHODS:
            self.assertIn(name, vars(Limits))

    def test_sorts_of_methods(self):
        self.assertIsInstance(vars(Limits)["read"], classmethod)
        self.assertIsInstance(vars(Limits)["single"], classmethod)
        self.assertIsInstance(vars(Limits)["is_limit"], staticmethod)
        self.assertTrue(inspect.isfunction(vars(Limits)["text"]))

    def test_arguments_of_methods(self):
        def names(function):
            return list(inspect.signature(function).parameters)

        self.assertEqual(names(Limits.__call__), ["self", "length"])
        self.assertEqual(names(Limits.read), ["text"])
        self.assertEqual(names(Limits.single), ["length", "most"])
        self.assertEqual(names(Limits.is_limit), ["thing"])
        self.assertEqual(names(Limits.text), ["self"])
        self.assertEqual(str(inspect.signature(Limits)), "(*pairs)")


if __name__ == "__main__":
    unittest.main()
