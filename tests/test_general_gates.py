"""Promises [2] and [3] for what limits let by together, for requests that wait, and for gates."""

import unittest

from burstlimits.curves import follows, fullest, inside, reason, short, shows_follows, shows_reason
from burstlimits.errors import (BurstError, Full, Late, NoAmount, NoLength, NoLimit, NoLimits, NoNumber, NoRow, NothingDone,
                                TooMany)
from burstlimits.gates import Bounded, Gate, Prompt, PromptBounded
from burstlimits.limits import Limits
from burstlimits.passing import passed, slowest, waiting, waits
from burstlimits.rows import shows_verdict
from tests.samples import any_values, gates
from tests.test_gates import seen

PAIRS = ((1, 3), (4, 5))
ROW = (7, 0, 0, 0, 1)


def calls(limits):
    """Calls of functions that succeed, by name of what they call."""
    return {
        "reason": lambda: reason(limits, 5),
        "shows_reason": lambda: (shows_reason(limits, 5, (1, 0)), shows_reason(limits, 5, (1, 1))),
        "fullest": lambda: fullest(limits, 9),
        "follows": lambda: (follows(limits, (2, 5)), follows(limits, (2, 4))),
        "shows_follows": lambda: (shows_follows(limits, (2, 5), ("follows", (1,))), shows_follows(limits, (2, 5), None)),
        "short": lambda: short(limits).pairs,
        "inside": lambda: (inside(limits, Limits((2, 4))), inside(limits, limits)),
        "passed": lambda: passed(limits, ROW),
        "waits": lambda: waits(limits, ROW),
        "waiting": lambda: list(waiting(limits, ROW)),
        "slowest": lambda: (slowest(limits, ROW), slowest(limits, ())),
    }


def refused_calls(limits):
    """Calls of functions that raise an exception."""
    return [
        lambda: reason(limits, 201), lambda: reason(None, 5), lambda: shows_reason(limits, True, ()),
        lambda: fullest(limits, 61), lambda: follows(limits, (0, 1)), lambda: shows_follows(limits, [2, 5], None),
        lambda: short(PAIRS), lambda: inside(limits, PAIRS), lambda: passed(limits, [7]), lambda: waits(limits, (True,)),
        lambda: next(waiting(limits, (61,))), lambda: slowest(limits, None),
    ]


class AgainAndUnchanged(unittest.TestCase):
    def test_a_call_made_again_gives_an_equal_result(self):
        limits = Limits(*PAIRS)
        first = {name: call() for name, call in calls(limits).items()}
        for again in (limits, limits, Limits(*PAIRS)):
            self.assertEqual({name: call() for name, call in calls(again).items()}, first)
        self.assertEqual(limits.pairs, PAIRS)

    def test_a_refused_call_changes_nothing(self):
        limits = Limits(*PAIRS)
        before = {name: call() for name, call in calls(limits).items()}
        for call in refused_calls(limits):
            with self.assertRaises(BurstError):
                call()
        self.assertEqual({name: call() for name, call in calls(limits).items()}, before)
        self.assertEqual(limits.pairs, PAIRS)

    def test_a_refused_call_leaves_a_gate_as_it_was(self):
        for gate in gates(Limits(*PAIRS)):
            gate.run(2, 1)
            gate.come = (1, 1, 1)
            before = seen(gate)
            for call in (lambda: gate.tick(-1), lambda: gate(58), lambda: gate.run(1, 61), lambda: gate.run(1, 1, 60),
                         lambda: gate.assign_come([1]), lambda: setattr(gate, "come", (61,)), lambda: gate[3],
                         lambda: gate[-1], lambda: gate[True], lambda: gate.tick([1])):
                with self.assertRaises(BurstError):
                    call()
                self.assertEqual(seen(gate), before)

    def test_looking_at_a_gate_changes_nothing(self):
        for gate in gates(Limits(*PAIRS)):
            gate.run(3, 2)
            first = seen(gate)
            gate.trying()
            self.assertEqual(seen(gate), first)
            self.assertEqual(seen(gate), first)

    def test_limits_of_gates_do_not_change(self):
        limits = Limits(*PAIRS)
        for gate in gates(limits):
            gate.run(1, 2, 2)
            gate.rest()
            gate.come = (1,)
            gate.undo()
            self.assertIs(gate.limits, limits)
            self.assertEqual(limits.pairs, PAIRS)

    def test_arguments_stay_as_they_were(self):
        limits = Limits(*PAIRS)
        for value in any_values():
            before = repr(value)
            for thing in (value, [value], (value,), ("follows", value), ("breaks", value), ("breaks", [value])):
                shows_reason(limits, 5, thing)
                shows_follows(limits, (2, 4), thing)
            for call in (lambda: reason(limits, [value]), lambda: fullest(limits, [value]), lambda: follows(limits, [value]),
                         lambda: short([value]), lambda: inside(limits, [value]), lambda: passed(limits, [value]),
                         lambda: waits(limits, [value]), lambda: next(waiting(limits, [value])),
                         lambda: slowest(limits, [value]), lambda: Gate([value]), lambda: Bounded(limits, [value]),
                         lambda: Prompt(limits, [value]), lambda: PromptBounded(limits, [value], [value]),
                         lambda: Gate(limits).tick([value]), lambda: Gate(limits).run([value]),
                         lambda: Gate(limits).assign_come([value]), lambda: Gate(limits)[[value]]):
                with self.assertRaises(BurstError):
                    call()
            self.assertEqual(repr(value), before)


class Names(unittest.TestCase):
    def test_calls_by_name_in_another_order(self):
        limits = Limits(*PAIRS)
        self.assertEqual(reason(length=5, limits=limits), (0, 1))
        self.assertTrue(shows_reason(thing=(1, 0), length=5, limits=limits))
        self.assertEqual(fullest(ticks=2, limits=limits), (3, 2))
        self.assertEqual(follows(pair=(2, 5), limits=limits), ("follows", (1,)))
        self.assertTrue(shows_follows(thing=("breaks", (3, 2)), pair=(2, 4), limits=limits))
        self.assertEqual(short(limits=limits), limits)
        self.assertEqual(inside(other=Limits((2, 4)), one=limits), (0, (3, 2)))
        self.assertEqual(passed(row=ROW, limits=limits), (3, 2, 0, 0, 3))
        self.assertEqual(waits(row=(4,), limits=limits), (0, 0, 0, 1))
        self.assertEqual(list(waiting(row=(4,), limits=limits)), [1, 0])
        self.assertEqual(slowest(row=ROW, limits=limits), (5, 4))

    def test_gates(self):
        limits = Limits(*PAIRS)
        for gate in (Gate(limits=limits), Bounded(room=9, limits=limits), Prompt(patience=9, limits=limits),
                     PromptBounded(room=9, patience=9, limits=limits)):
            self.assertEqual((gate.tick(amount=4), gate(amount=1)), (3, 2))
            self.assertIsNone(gate.assign_come(row=(5,)))
            self.assertEqual(gate.through, (3,))


class Bools(unittest.TestCase):
    def test_in_the_place_of_an_integer(self):
        limits = Limits((1, 1), (2, 1))
        refused = [
            (NoLength, lambda: reason(limits, True)), (NoLength, lambda: reason(limits, False)),
            (NoLength, lambda: shows_reason(limits, True, (0,))), (NoLength, lambda: fullest(limits, True)),
            (NoLimit, lambda: follows(limits, (True, 1))), (NoLimit, lambda: follows(limits, (1, True))),
            (NoLimit, lambda: shows_follows(limits, (1, True), None)), (NoRow, lambda: passed(limits, (1, True))),
            (NoRow, lambda: waits(limits, (False,))), (NoRow, lambda: next(waiting(limits, (True,)))),
            (NoRow, lambda: slowest(limits, (True,))), (NoAmount, lambda: Gate(limits).tick(True)),
            (NoAmount, lambda: Gate(limits)(False)), (NoAmount, lambda: Gate(limits).run(0, True)),
            (NoRow, lambda: Gate(limits).assign_come((True,))), (NoAmount, lambda: Bounded(limits, True)),
            (NoAmount, lambda: Prompt(limits, False)), (NoAmount, lambda: PromptBounded(limits, True, 1)),
            (NoAmount, lambda: PromptBounded(limits, 1, False)),
        ]
        for error, call in refused:
            with self.assertRaises(error):
                call()
        gate = Gate(limits)
        gate.run(1, 1)
        for wrong in (False, True):
            with self.assertRaises(NoNumber):
                gate[wrong]

    def test_inside_what_is_shown(self):
        limits = Limits((1, 1), (2, 1))
        self.assertTrue(shows_reason(limits, 1, (1,)))
        self.assertTrue(shows_reason(limits, 1, (0,)))
        for thing in ((True,), (False,), [1], (1, True)):
            self.assertIs(shows_reason(limits, 1, thing), False)
            self.assertIs(shows_follows(limits, (1, 1), ("follows", thing)), False)
        self.assertTrue(shows_follows(Limits((1, 2)), (1, 1), ("breaks", (2, 1))))
        for row in ((2, True), (2, False), (True, 2), [2, 1]):
            self.assertIs(shows_follows(Limits((1, 2)), (1, 1), ("breaks", row)), False)


class ListsAndTuples(unittest.TestCase):
    def test_a_list_in_the_place_of_a_tuple(self):
        limits = Limits(*PAIRS)
        for error, call in ((NoLimit, lambda: follows(limits, [2, 5])), (NoLimit, lambda: shows_follows(limits, [2, 5], ())),
                            (NoRow, lambda: passed(limits, [1])), (NoRow, lambda: waits(limits, [1])),
                            (NoRow, lambda: next(waiting(limits, [1]))), (NoRow, lambda: slowest(limits, [])),
                            (NoRow, lambda: Gate(limits).assign_come([1])), (NoAmount, lambda: Gate(limits).run([1])),
                            (NoAmount, lambda: Gate(limits).run((1, 2)))):
            with self.assertRaises(error):
                call()
        self.assertIs(shows_reason(limits, 5, [0, 1]), False)
        self.assertIs(shows_follows(limits, (2, 5), ["follows", (1,)]), False)
        self.assertIs(shows_follows(limits, (2, 5), ("follows", [1])), False)
        self.assertIs(shows_follows(limits, (2, 4), ("breaks", [3, 2])), False)

    def test_a_tuple_in_the_place_of_something_else(self):
        limits = Limits(*PAIRS)
        for call in (lambda: reason(PAIRS, 5), lambda: reason(limits, (5,)), lambda: short(PAIRS), lambda: inside(PAIRS, limits),
                     lambda: passed(PAIRS, ()), lambda: Gate(PAIRS), lambda: Gate(limits).tick((1,)),
                     lambda: Bounded(limits, (1,)), lambda: Gate(limits)[(0,)], lambda: Gate(limits).run((1,))):
            with self.assertRaises(BurstError):
                call()


class AnyValue(unittest.TestCase):
    def test_gates_wherever_any_value_is_accepted(self):
        limits = Limits(*PAIRS)
        for gate in gates(limits):
            gate.run(3, 2)
            for thing in (gate, [gate], (gate,), {"gate": gate}, (gate, gate), ("follows", gate), ("breaks", gate),
                          ("follows", (gate,)), ("breaks", (3, gate)), (gate, (1,)), ("kept", gate), ("broken", gate, 0, 4)):
                self.assertIs(thing in limits, False)
                self.assertIs(limits == thing, False)
                self.assertIs(thing == limits, False)
                self.assertIs(Limits.is_limit(thing), False)
                self.assertIs(shows_verdict(limits, (4,), thing), False)
                self.assertIs(shows_reason(limits, 5, thing), False)
                self.assertIs(shows_follows(limits, (2, 5), thing), False)
                self.assertIs(shows_follows(limits, (2, 4), thing), False)
            with self.assertRaises(NoLimits):
                gate + limits
            with self.assertRaises(NoLimits):
                limits + gate
            for call in (lambda: reason(gate, 5), lambda: short(gate), lambda: inside(limits, gate), lambda: passed(gate, ()),
                         lambda: Gate(gate), lambda: PromptBounded(gate, 1, 1)):
                with self.assertRaises(NoLimits):
                    call()

    def test_returned_values_with_parts_changed_or_added(self):
        limits = Limits(*PAIRS)
        through = passed(limits, (60,))
        self.assertEqual(passed(limits, through), through)
        self.assertEqual(passed(limits, through[:5] + (0,) * 7000), through[:5] + (0,) * 7000)
        with self.assertRaises(NoRow):
            passed(limits, through * 2)
        gate = Gate(limits)
        gate.come = through + (0,) * 7000
        self.assertEqual(gate.through, through + (0,) * 7000)
        self.assertFalse(shows_reason(limits, 5, reason(limits, 5) * 4000))
        word, row = follows(limits, (2, 4))
        self.assertTrue(shows_follows(limits, (2, 4), (word, row + (0,) * 7000)))
        self.assertFalse(shows_follows(limits, (2, 4), (word, row) * 3000))


class TheFirstException(unittest.TestCase):
    def test_the_one_listed_first(self):
        limits = Limits(*PAIRS)
        cases = [
            (NoLimits, lambda: reason(None, -1)), (NoLimits, lambda: shows_reason(None, -1, ())),
            (NoLimits, lambda: fullest(None, 61)), (NoLimits, lambda: follows(None, None)),
            (NoLimits, lambda: shows_follows(None, None, None)), (NoLimits, lambda: inside(None, None)),
            (NoLimits, lambda: passed(None, None)), (NoLimits, lambda: waits(None, None)),
            (NoLimits, lambda: next(waiting(None, None))), (NoLimits, lambda: slowest(None, None)),
            (NoLimits, lambda: Bounded(None, None)), (NoLimits, lambda: Prompt(None, None)),
            (NoLimits, lambda: PromptBounded(None, None, None)), (NoAmount, lambda: Gate(limits).tick(61)),
            (TooMany, lambda: Bounded(limits, 0).run(3, 58)), (Full, lambda: Bounded(limits, 0).run(4, 58)),
            (TooMany, lambda: Prompt(limits, 0).run(3, 58)), (Late, lambda: Prompt(limits, 0).run(4, 58)),
            (Full, lambda: PromptBounded(limits, 0, 0).tick(4)), (Late, lambda: PromptBounded(limits, 0, 1).tick(4)),
            (NothingDone, lambda: PromptBounded(limits, 0, 0).undo()),
        ]
        for error, call in cases:
            with self.assertRaises(error):
                call()

    def test_a_generator_at_the_latest_when_its_first_result_is_asked_for(self):
        limits = Limits(*PAIRS)
        for error, arguments in ((NoLimits, (None, None)), (NoLimits, (PAIRS, ())), (NoRow, (limits, [1])), (NoRow, (limits, (61,)))):
            with self.assertRaises(error):
                next(waiting(*arguments))
            with self.assertRaises(error):
                list(waiting(*arguments))


if __name__ == "__main__":
    unittest.main()
