"""Promises [2] and [3]: what holds for every call."""

import copy
import unittest

from burstlimits.errors import NoLengths, NoLimit, NoLimits, NoRow, NoRows, TooMany
from burstlimits.limits import Limits
from burstlimits.rows import learnt, merged, shows_verdict, tightest, verdict
from tests.samples import any_values, deep

PAIRS = ((1, 3), (4, 5))


def calls(limits):
    """Calls that succeed, over the whole interface, by name of what they call."""
    return {
        "pairs": lambda: limits.pairs,
        "len": lambda: len(limits),
        "number": lambda: limits[1],
        "in": lambda: ((4, 5) in limits, (5, 4) in limits),
        "length": lambda: limits(9),
        "add": lambda: limits + Limits((2, 4)),
        "equal": lambda: limits == Limits(*PAIRS),
        "repr": lambda: repr(limits),
        "text": lambda: limits.text(),
        "read": lambda: Limits.read("at most 5 in 4\n"),
        "single": lambda: Limits.single(4, 5),
        "is_limit": lambda: Limits.is_limit((4, 5)),
        "verdict": lambda: verdict(limits, (3, 3)),
        "shows_verdict": lambda: shows_verdict(limits, (3, 3), ("broken", 0, 1, 6)),
        "tightest": lambda: tightest(((3, 3), (1,)), 2),
        "learnt": lambda: learnt(((3, 3), (1,)), (2, 1)),
        "merged": lambda: merged((3, 3), (1,)),
    }


def refused_calls(limits):
    """Calls that raise an exception."""
    return [
        lambda: limits[2], lambda: limits[True], lambda: limits(-1), lambda: limits + (1, 2), lambda: limits + 5,
        lambda: limits + Limits(*[(9, most) for most in range(1, 7)]), lambda: Limits.read("at most"),
        lambda: Limits.single(0, 1), lambda: Limits(), lambda: verdict(limits, [1]), lambda: verdict(None, ()),
        lambda: shows_verdict(limits, (True,), ()), lambda: tightest([], 1), lambda: tightest((), 0),
        lambda: learnt((), ()), lambda: learnt(((21,),), (1,)), lambda: merged((60,), (1,)),
    ]


class AgainAndUnchanged(unittest.TestCase):
    def test_a_call_made_again_gives_an_equal_result(self):
        limits = Limits(*PAIRS)
        first = {name: call() for name, call in calls(limits).items()}
        for _ in range(2):
            self.assertEqual({name: call() for name, call in calls(limits).items()}, first)
        self.assertEqual({name: call() for name, call in calls(Limits(*PAIRS)).items()}, first)

    def test_a_refused_call_changes_nothing(self):
        limits = Limits(*PAIRS)
        before = {name: call() for name, call in calls(limits).items()}
        for call in refused_calls(limits):
            with self.assertRaises(ValueError):
                call()
            self.assertEqual({name: call() for name, call in calls(limits).items()}, before)

    def test_limits_do_not_change(self):
        limits = Limits(*PAIRS)
        with self.assertRaises(AttributeError):
            limits.pairs = ((1, 1),)
        with self.assertRaises(TypeError):
            limits[0] = (1, 1)
        self.assertEqual(limits.pairs, PAIRS)

    def test_arguments_stay_as_they_were(self):
        limits = Limits(*PAIRS)
        mutable = [value for value in any_values() if not isinstance(value, Limits)]
        for value in mutable:
            before = repr(value)
            for call in (lambda: value in limits, lambda: limits == value, lambda: Limits.is_limit(value),
                         lambda: shows_verdict(limits, (1,), value), lambda: shows_verdict(limits, (1,), ("broken", value, value, value))):
                call()
            for call in (lambda: limits + value, lambda: Limits(value), lambda: limits[[value]], lambda: limits([value]),
                         lambda: verdict(limits, [value]), lambda: tightest([value], 1), lambda: learnt((), [value]),
                         lambda: merged((), [value]), lambda: Limits.read([value])):
                with self.assertRaises(ValueError):
                    call()
            self.assertEqual(repr(value), before)

    def test_lists_stay_as_they_were(self):
        rows, lengths, row = [(1, 2), [3]], [1, 2], [1, 2]
        kept = copy.deepcopy((rows, lengths, row))
        for call in (lambda: tightest(rows, 1), lambda: learnt((), lengths), lambda: merged(row, row), lambda: Limits(row)):
            with self.assertRaises(ValueError):
                call()
        self.assertEqual((rows, lengths, row), kept)


class Names(unittest.TestCase):
    def test_calls_by_name_in_another_order(self):
        limits = Limits(*PAIRS)
        self.assertEqual(limits(length=5), 8)
        self.assertEqual(Limits.single(most=5, length=4), Limits((4, 5)))
        self.assertEqual(Limits.read(text="at most 5 in 4\n"), Limits((4, 5)))
        self.assertTrue(Limits.is_limit(thing=(4, 5)))
        self.assertEqual(verdict(row=(3, 3), limits=limits), ("broken", 0, 1, 6))
        self.assertTrue(shows_verdict(thing=("broken", 0, 1, 6), row=(3, 3), limits=limits))
        self.assertEqual(tightest(length=2, rows=((3, 3),)), 6)
        self.assertEqual(learnt(lengths=(2, 1), rows=((3, 3),)), Limits((2, 6), (1, 3)))
        self.assertEqual(merged(other=(1,), one=(3, 3)), (4, 3))


class Bools(unittest.TestCase):
    def test_in_the_place_of_an_integer(self):
        limits = Limits((1, 1), (2, 1))
        refused = [
            (NoLimit, lambda: Limits((True, 1))), (NoLimit, lambda: Limits((1, 1), (2, True))),
            (NoLimit, lambda: Limits.single(True, 1)), (NoLimit, lambda: Limits.single(1, True)),
            (NoRow, lambda: verdict(limits, (True,))), (NoRow, lambda: verdict(limits, (1, False))),
            (NoRow, lambda: merged((0, True), ())), (NoRow, lambda: merged((), (False,))),
            (NoRows, lambda: tightest(((True,),), 1)), (NoRows, lambda: learnt(((), (1, False)), (1,))),
            (NoLengths, lambda: learnt((), (True,))), (NoLengths, lambda: learnt((), (2, True))),
        ]
        for error, call in refused:
            with self.assertRaises(error):
                call()
        for call in (lambda: limits[False], lambda: limits[True], lambda: limits(True), lambda: limits(False),
                     lambda: tightest((), True)):
            with self.assertRaises(ValueError):
                call()
        self.assertFalse((True, True) in limits)
        self.assertFalse(Limits.is_limit((True, True)))
        self.assertFalse(shows_verdict(limits, (2,), ("broken", False, False, 2)))
        self.assertTrue(shows_verdict(limits, (2,), ("broken", 0, 0, 2)))


class ListsAndTuples(unittest.TestCase):
    def test_a_list_in_the_place_of_a_tuple(self):
        limits = Limits(*PAIRS)
        refused = [
            (NoLimit, lambda: Limits([1, 3])), (NoLimit, lambda: Limits([(1, 3)])), (NoRow, lambda: verdict(limits, [1])),
            (NoRow, lambda: merged([1], ())), (NoRow, lambda: merged((), [1])), (NoRows, lambda: tightest([(1,)], 1)),
            (NoRows, lambda: tightest(([1],), 1)), (NoRows, lambda: learnt([(1,)], (1,))), (NoRows, lambda: learnt(([1],), (1,))),
            (NoLengths, lambda: learnt((), [1])),
        ]
        for error, call in refused:
            with self.assertRaises(error):
                call()
        self.assertFalse([1, 3] in limits)
        self.assertFalse(Limits.is_limit([1, 3]))
        self.assertFalse(shows_verdict(limits, (1,), ["kept"]))
        self.assertFalse(shows_verdict(limits, (4,), ["broken", 0, 0, 4]))

    def test_a_tuple_in_the_place_of_something_else(self):
        limits = Limits(*PAIRS)
        for call in (lambda: limits + PAIRS, lambda: verdict(PAIRS, ()), lambda: shows_verdict(PAIRS, (), ("kept",)),
                     lambda: limits[(0,)], lambda: limits((5,)), lambda: tightest((), (1,)), lambda: Limits.read(("at most 5 in 4\n",)),
                     lambda: Limits.single((1,), 2)):
            with self.assertRaises(ValueError):
                call()
        self.assertFalse(limits == PAIRS)
        self.assertFalse(PAIRS == limits)


class AnyValue(unittest.TestCase):
    def test_wherever_any_value_is_accepted(self):
        limits = Limits(*PAIRS)
        for value in any_values():
            for thing in (value, [value], (value, value), {"key": value}, ("broken", value, 0, 4), ("broken", 0, value, 4),
                          ("broken", 0, 0, value), (value, 0, 0, 4)):
                self.assertIs(thing in limits, False)
                self.assertIs(limits == thing, thing is not None and isinstance(thing, Limits) and thing.pairs == PAIRS)
                self.assertIs(Limits.is_limit(thing), thing in ((1, 1), (2, 2)) and type(value) is int)
                self.assertIs(shows_verdict(limits, (4, 3), thing), thing in SHOWN and type(value) in (int, str))

    def test_nested_twenty_deep(self):
        for depth in range(21):
            self.assertFalse(deep(depth) in Limits((1, 1)))
            self.assertFalse(Limits.is_limit((deep(depth), 1)))

    def test_returned_values_with_parts_changed_or_added(self):
        limits = Limits(*PAIRS)
        judged = verdict(limits, (3, 3))
        self.assertTrue(shows_verdict(limits, (3, 3), judged))
        self.assertFalse(shows_verdict(limits, (3, 3), judged + judged))
        self.assertFalse(shows_verdict(limits, (3, 3), judged * 1000))
        self.assertFalse(shows_verdict(limits, (3, 3), judged[:3]))
        self.assertEqual(verdict(limits, merged((3,), (0,) * 9000)), ("kept",))


# All that is right of the row (4, 3): 4 in its first tick, and 7 in its first four.
SHOWN = (("broken", 0, 0, 4), ("broken", 0, 1, 7))


class TheFirstException(unittest.TestCase):
    def test_the_one_listed_first(self):
        seven = [(1, most) for most in range(1, 8)]
        cases = [
            (NoLimit, lambda: Limits(*seven, (0, 1))), (NoLimit, lambda: Limits(*seven, (1, 1))),
            (NoLimits, lambda: verdict(None, None)), (NoLimits, lambda: shows_verdict((1, 3), [1], None)),
            (NoRow, lambda: shows_verdict(Limits(*PAIRS), [4], ("kept",))), (NoRows, lambda: tightest([], 0)),
            (NoRows, lambda: tightest(((61,),), True)), (NoRows, lambda: learnt(None, None)),
            (NoLengths, lambda: learnt(((21,),), (1, 1))), (NoLengths, lambda: learnt(((21,),), (1, 0))),
            (NoRow, lambda: merged((60,), (1, True))), (NoRow, lambda: merged((61,), (60,))),
        ]
        for error, call in cases:
            with self.assertRaises(error):
                call()
        with self.assertRaises(TooMany):
            merged((60,), (1,))


if __name__ == "__main__":
    unittest.main()
