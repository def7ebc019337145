"""Each name of the interface is defined where the interface lists it, with its arguments."""

import inspect
import unittest

from burstlimits import curves, gates, limits, passing, rows
from burstlimits.gates import Bounded, Gate, Prompt, PromptBounded
from burstlimits.limits import Limits

FUNCTIONS = {
    rows: {
        "verdict": ["limits", "row"],
        "shows_verdict": ["limits", "row", "thing"],
        "tightest": ["rows", "length"],
        "learnt": ["rows", "lengths"],
        "merged": ["one", "other"],
    },
    curves: {
        "reason": ["limits", "length"],
        "shows_reason": ["limits", "length", "thing"],
        "fullest": ["limits", "ticks"],
        "follows": ["limits", "pair"],
        "shows_follows": ["limits", "pair", "thing"],
        "short": ["limits"],
        "inside": ["one", "other"],
    },
    passing: {
        "passed": ["limits", "row"],
        "waits": ["limits", "row"],
        "waiting": ["limits", "row"],
        "slowest": ["limits", "row"],
    },
}
METHODS = ["__init__", "__len__", "__contains__", "__getitem__", "__call__", "__add__", "__eq__", "__repr__", "text",
           "read", "single", "is_limit", "pairs"]


GATE_METHODS = {
    "tick": ["self", "amount"],
    "__call__": ["self", "amount"],
    "run": ["self", "amounts"],
    "rest": ["self"],
    "assign_come": ["self", "row"],
    "undo": ["self"],
    "trying": ["self"],
    "__len__": ["self"],
    "__repr__": ["self"],
    "__init__": ["self", "limits"],
}


class Interface(unittest.TestCase):
    def test_functions(self):
        for module, functions in FUNCTIONS.items():
            for name, arguments in functions.items():
                function = vars(module)[name]
                self.assertTrue(inspect.isfunction(function), name)
                self.assertEqual(function.__module__, module.__name__)
                self.assertEqual(list(inspect.signature(function).parameters), arguments)

    def test_the_one_generator(self):
        found = [name for functions in FUNCTIONS.values() for name in functions]
        modules = [module for module in FUNCTIONS]
        generators = [name for name in found for module in modules if inspect.isgeneratorfunction(vars(module).get(name))]
        self.assertEqual(generators, ["waiting"])

    def test_class_gate(self):
        self.assertEqual(Gate.__module__, "burstlimits.gates")
        for name, arguments in GATE_METHODS.items():
            self.assertTrue(inspect.isfunction(vars(Gate)[name]), name)
            self.assertEqual(list(inspect.signature(vars(Gate)[name]).parameters), arguments)
        self.assertEqual(str(inspect.signature(Gate.run)), "(self, *amounts)")
        self.assertIn("__getitem__", vars(Gate))

    def test_properties_of_gates(self):
        for gate in (Gate(Limits((1, 1))), Bounded(Limits((1, 1)), 1), Prompt(Limits((1, 1)), 1),
                     PromptBounded(Limits((1, 1)), 1, 1)):
            for name in ("limits", "come", "through", "waiting", "changes"):
                self.assertTrue(hasattr(gate, name))
            for name in ("limits", "through", "changes"):
                with self.assertRaises(AttributeError):
                    setattr(gate, name, getattr(gate, name))
            with self.assertRaises(TypeError):
                iter(gate)

    def test_classes_derived_from_gate(self):
        for name, bases, arguments in (("Bounded", (Gate,), ["limits", "room"]), ("Prompt", (Gate,), ["limits", "patience"]),
                                       ("PromptBounded", (Prompt, Bounded), ["limits", "patience", "room"])):
            kind = vars(gates)[name]
            self.assertEqual((kind.__module__, kind.__bases__), ("burstlimits.gates", bases))
            self.assertEqual(list(inspect.signature(kind).parameters), arguments)
            for argument in arguments[1:]:
                self.assertIsInstance(vars(kind)[argument], property)

    def test_class_limits(self):
        self.assertTrue(inspect.isclass(limits.Limits))
        self.assertEqual(Limits.__module__, "burstlimits.limits")
        for name in METHODS:
            self.assertIn(name, vars(Limits))

    def test_sorts_of_methods(self):
        self.assertIsInstance(vars(Limits)["read"], classmethod)
        self.assertIsInstance(vars(Limits)["single"], classmethod)
        self.assertIsInstance(vars(Limits)["is_limit"], staticmethod)
        self.assertTrue(inspect.isfunction(vars(Limits)["text"]))

    def test_arguments_of_methods(self):
        def names(function):
            return list(inspect.signature(function).parameters)

        self.assertEqual(names(Limits.__call__), ["self", "length"])
        self.assertEqual(names(Limits.read), ["text"])
        self.assertEqual(names(Limits.single), ["length", "most"])
        self.assertEqual(names(Limits.is_limit), ["thing"])
        self.assertEqual(names(Limits.text), ["self"])
        self.assertEqual(str(inspect.signature(Limits)), "(*pairs)")


if __name__ == "__main__":
    unittest.main()
