"""Promise [41]: Bounded, Prompt and PromptBounded."""

import unittest

from burstlimits.errors import Full, Late, NoAmount, NoLimits, NoRow, NothingDone, TooMany
from burstlimits.gates import Bounded, Gate, Prompt, PromptBounded
from burstlimits.limits import Limits
from tests.samples import passed_by_formula, random_limits, random_row, seeded, wrong_integers, wrong_limits
from tests.test_gates import expected, seen

LIMITS = Limits((1, 3), (4, 5))


def first_refusal(limits, row, room=None, patience=None):
    """("full", amount) or ("late", ticks) for the first tick of the row that is refused; None if none is."""
    for tick in range(len(row)):
        beginning = row[:tick + 1]
        through = passed_by_formula(limits, beginning)
        held = sum(beginning) - sum(through[:tick + 1])
        if room is not None and held > room:
            return "full", held
        if patience is not None and row[tick] > 0:
            # The last one is through in the last tick in which any is.
            last = max([at for at, amount in enumerate(through) if amount > 0])
            if last - tick > patience:
                return "late", last - tick
    return None


def refusal(call, *args):
    """("full", amount) or ("late", ticks) if the call is refused; None if it is not."""
    try:
        call(*args)
    except Full as error:
        return "full", error.amount
    except Late as error:
        return "late", error.ticks
    return None


def several(limits, room, patience):
    """Gates of each class that refuse, with what first_refusal is to be told of them."""
    return [(Bounded(limits, room), {"room": room}), (Prompt(limits, patience), {"patience": patience}),
            (PromptBounded(limits, patience, room), {"room": room, "patience": patience})]


class Rooms(unittest.TestCase):
    def test_just_the_room_and_one_above(self):
        gate = Bounded(LIMITS, 4)
        before = seen(gate)
        self.assertEqual(refusal(gate.tick, 8), ("full", 5))
        self.assertEqual(refusal(gate, 60), ("full", 57))
        self.assertEqual(refusal(gate.run, 8), ("full", 5))
        self.assertEqual(seen(gate), before)
        self.assertEqual(gate.tick(7), 3)
        self.assertEqual(seen(gate), expected(LIMITS, (7,), 1, "Bounded"))
        self.assertEqual(refusal(gate.tick, 3), ("full", 5))
        self.assertEqual(gate.tick(2), 2)
        self.assertEqual(refusal(gate.tick, 1), ("full", 5))
        self.assertEqual(gate.tick(0), 0)

    def test_room_zero(self):
        gate = Bounded(LIMITS, 0)
        self.assertEqual(refusal(gate.tick, 4), ("full", 1))
        self.assertEqual(gate.tick(3), 3)
        self.assertEqual(refusal(gate.tick, 3), ("full", 1))
        self.assertEqual(gate.run(2, 0, 0, 3), (2, 0, 0, 3))
        self.assertEqual(gate.rest(), 0)

    def test_room_sixty(self):
        gate = Bounded(LIMITS, 60)
        self.assertEqual(gate.tick(60), 3)
        with self.assertRaises(TooMany):
            gate.tick(1)

    def test_property(self):
        for room in (0, 1, 60):
            self.assertEqual(Bounded(LIMITS, room).room, room)
            self.assertEqual(Bounded(room=room, limits=LIMITS).limits, LIMITS)
            self.assertEqual(PromptBounded(LIMITS, 7, room).room, room)

    def test_wrong_ones(self):
        for wrong in wrong_integers(0, 60):
            with self.assertRaises(NoAmount):
                Bounded(LIMITS, wrong)
        for wrong in wrong_limits():
            for room in (0, 61, -1, True, None):
                with self.assertRaises(NoLimits):
                    Bounded(wrong, room)

    def test_it_is_a_gate(self):
        self.assertIsInstance(Bounded(LIMITS, 1), Gate)
        self.assertNotIsInstance(Bounded(LIMITS, 1), Prompt)


class Patiences(unittest.TestCase):
    def test_just_the_patience_and_one_above(self):
        # Of 7 at once the last two wait 4 ticks.
        gate = Prompt(LIMITS, 3)
        before = seen(gate)
        for call in (gate.tick, gate, gate.run):
            self.assertEqual(refusal(call, 7), ("late", 4))
            self.assertEqual(refusal(call, 9), ("late", 5))
        self.assertEqual(seen(gate), before)
        gate = Prompt(LIMITS, 4)
        self.assertEqual(gate.tick(7), 3)
        self.assertEqual(seen(gate), expected(LIMITS, (7,), 1, "Prompt"))
        self.assertEqual(refusal(gate.tick, 4), ("late", 7))
        self.assertEqual(gate.tick(1), 2)
        self.assertEqual(gate.rest(), 3)

    def test_patience_zero(self):
        gate = Prompt(LIMITS, 0)
        self.assertEqual(refusal(gate.tick, 4), ("late", 1))
        self.assertEqual(gate.run(3, 2), (3, 2))
        self.assertEqual(refusal(gate.tick, 1), ("late", 2))
        self.assertEqual(gate.tick(0), 0)
        self.assertEqual(refusal(gate.tick, 1), ("late", 1))
        self.assertEqual(gate.run(0, 3), (0, 3))

    def test_patience_one_hundred(self):
        gate = Prompt(Limits((20, 1)), 100)
        self.assertEqual(refusal(gate.tick, 7), ("late", 120))
        self.assertEqual(refusal(gate.tick, 60), ("late", 1180))
        self.assertEqual(gate.tick(6), 1)
        self.assertEqual(refusal(gate.tick, 1), ("late", 119))
        self.assertEqual(gate.rest(), 100)
        gate = Prompt(Limits((17, 1)), 100)
        self.assertEqual(refusal(gate.run, 0, 7), ("late", 102))

    def test_ticks_without_requests_are_never_refused(self):
        gate = Prompt(Limits((20, 1)), 20)
        self.assertEqual(gate.run(2, 0, 0), (1, 0, 0))
        self.assertEqual(gate.rest(), 18)

    def test_the_last_one_of_a_tick_counts(self):
        gate = Prompt(Limits((1, 1)), 2)
        self.assertEqual(refusal(gate.tick, 4), ("late", 3))
        self.assertEqual(gate.run(3, 1, 1, 1), (1, 1, 1, 1))
        self.assertEqual(refusal(gate.tick, 2), ("late", 3))

    def test_property(self):
        for patience in (0, 1, 61, 100):
            self.assertEqual(Prompt(LIMITS, patience).patience, patience)
            self.assertEqual(Prompt(patience=patience, limits=LIMITS).limits, LIMITS)
            self.assertEqual(PromptBounded(LIMITS, patience, 7).patience, patience)

    def test_wrong_ones(self):
        for wrong in wrong_integers(0, 100):
            with self.assertRaises(NoAmount):
                Prompt(LIMITS, wrong)
        for wrong in wrong_limits():
            for patience in (0, 101, -1, True, None):
                with self.assertRaises(NoLimits):
                    Prompt(wrong, patience)

    def test_it_is_a_gate(self):
        self.assertIsInstance(Prompt(LIMITS, 1), Gate)
        self.assertNotIsInstance(Prompt(LIMITS, 1), Bounded)


class Both(unittest.TestCase):
    def test_what_it_is(self):
        gate = PromptBounded(LIMITS, 3, 4)
        for kind in (Prompt, Bounded, Gate):
            self.assertIsInstance(gate, kind)
        self.assertEqual((gate.limits, gate.patience, gate.room), (LIMITS, 3, 4))
        gate = PromptBounded(room=5, limits=LIMITS, patience=100)
        self.assertEqual((gate.limits, gate.patience, gate.room), (LIMITS, 100, 5))

    def test_full_comes_first(self):
        gate = PromptBounded(LIMITS, 3, 4)
        self.assertEqual(refusal(gate.tick, 7), ("late", 4))
        self.assertEqual(refusal(gate.tick, 8), ("full", 5))
        self.assertEqual(refusal(PromptBounded(LIMITS, 4, 3).tick, 7), ("full", 4))
        self.assertEqual(refusal(PromptBounded(LIMITS, 3, 3).tick, 7), ("full", 4))
        self.assertEqual(refusal(PromptBounded(LIMITS, 4, 4).tick, 7), None)
        self.assertEqual(seen(gate), expected(LIMITS, (), 0, "PromptBounded"))

    def test_the_first_tick_comes_ahead_of_full(self):
        # The first tick is late, the second one would be full.
        for refused in (lambda gate: refusal(gate.run, 7, 9), lambda gate: refusal(gate.assign_come, (7, 9)),
                        lambda gate: refusal(setattr, gate, "come", (7, 9))):
            self.assertEqual(refused(PromptBounded(LIMITS, 3, 4)), ("late", 4))
            self.assertEqual(refused(PromptBounded(LIMITS, 4, 4)), ("full", 11))

    def test_wrong_ones(self):
        for wrong in wrong_integers(0, 60):
            with self.assertRaises(NoAmount):
                PromptBounded(LIMITS, 5, wrong)
        for wrong in wrong_integers(0, 100):
            with self.assertRaises(NoAmount):
                PromptBounded(LIMITS, wrong, 5)
        for patience, room in ((101, 61), (-1, -1), (True, 5), (5, True), (None, None), (100, 61), (101, 60)):
            with self.assertRaises(NoAmount):
                PromptBounded(LIMITS, patience, room)
            for wrong in wrong_limits():
                with self.assertRaises(NoLimits):
                    PromptBounded(wrong, patience, room)
        self.assertEqual(PromptBounded(LIMITS, 100, 60).patience, 100)


class WhatIsRefused(unittest.TestCase):
    def test_ticks_against_the_formula(self):
        source = seeded(61)
        refused = {"full": 0, "late": 0, None: 0}
        for _ in range(120):
            limits = random_limits(source)
            for gate, told in several(limits, source.randint(0, 8), source.randint(0, 12)):
                row = ()
                for _ in range(10):
                    amount = min(source.choice([0, 0, 1, 2, 4, 9]), 60 - sum(row))
                    before = seen(gate)
                    self.assertEqual(before, expected(limits, row, len(row), type(gate).__name__))
                    answer = refusal(source.choice([gate.tick, gate, gate.run]), amount)
                    self.assertEqual(answer, first_refusal(limits, row + (amount,), **told))
                    refused[answer and answer[0]] += 1
                    if answer is None:
                        row += (amount,)
                    else:
                        self.assertEqual(seen(gate), before)
        self.assertGreater(min(refused.values()), 100)

    def test_runs_and_assignments_against_the_formula(self):
        source = seeded(62)
        refused = {"full": 0, "late": 0, None: 0}
        for _ in range(200):
            limits, row = random_limits(source), random_row(source, 8, 30)
            for gate, told in several(limits, source.randint(0, 20), source.randint(0, 40)):
                name = type(gate).__name__
                answer = first_refusal(limits, row, **told)
                refused[answer and answer[0]] += 1
                self.assertEqual(refusal(gate.run, *row), answer)
                self.assertEqual(seen(gate), expected(limits, row if answer is None else (), gate.changes, name))
                gate.run(0, 0)
                before = seen(gate)
                self.assertEqual(refusal(setattr, gate, "come", row), answer)
                self.assertEqual(refusal(gate.assign_come, row), answer)
                if answer is None:
                    self.assertEqual(seen(gate), expected(limits, row, before[4] + 2, name))
                    gate.undo()
                    gate.undo()
                self.assertEqual(seen(gate), before)
        self.assertGreater(min(refused.values()), 50)

    def test_an_assignment_is_refused_for_the_first_tick(self):
        gate = Bounded(LIMITS, 4)
        gate.tick(2)
        before = seen(gate)
        self.assertEqual(refusal(gate.assign_come, (0, 8, 30)), ("full", 5))
        self.assertEqual(refusal(gate.assign_come, (3, 2, 5, 40)), ("full", 5))
        self.assertEqual(seen(gate), before)
        gate = Prompt(LIMITS, 4)
        self.assertEqual(refusal(gate.assign_come, (0, 8, 30)), ("late", 27))
        self.assertEqual(refusal(Prompt(LIMITS, 3).assign_come, (0, 8, 30)), ("late", 4))

    def test_too_many_and_no_amount_come_first(self):
        for gate in (Bounded(LIMITS, 0), Prompt(LIMITS, 0), PromptBounded(LIMITS, 0, 0)):
            gate.run(3)
            before = seen(gate)
            for call in (gate.tick, gate, gate.run):
                with self.assertRaises(TooMany) as caught:
                    call(58)
                self.assertEqual((caught.exception.amount, caught.exception.limit), (61, 60))
                self.assertIsNotNone(refusal(call, 57))
                for wrong in (61, -1, True, "1", None):
                    with self.assertRaises(NoAmount):
                        call(wrong)
            with self.assertRaises(NoRow):
                gate.come = (58, 3)
            self.assertEqual(seen(gate), before)

    def test_the_first_one_refused_in_a_run_counts(self):
        for gate in (Bounded(LIMITS, 0), Prompt(LIMITS, 0), PromptBounded(LIMITS, 0, 0)):
            word = "late" if type(gate) is Prompt else "full"
            for behind in (-1, True, 61, None, 60, "1"):
                self.assertEqual(refusal(gate.run, 3, 3, behind), (word, {"late": 3, "full": 1}[word]))
            with self.assertRaises(NoAmount):
                gate.run(3, -1, 3)
            with self.assertRaises(TooMany):
                gate.run(3, 58, -1)
            self.assertEqual((len(gate), gate.changes), (0, 0))

    def test_wrong_rows_come_first(self):
        for gate in (Bounded(LIMITS, 0), Prompt(LIMITS, 0), PromptBounded(LIMITS, 0, 0)):
            for wrong in ([60], (60, True), (60, -1), (61,), None):
                with self.assertRaises(NoRow):
                    gate.assign_come(wrong)


class RestsAndTakingBack(unittest.TestCase):
    def test_rest(self):
        for gate, _ in several(LIMITS, 4, 4):
            gate.tick(7)
            self.assertEqual(gate.rest(), 4)
            self.assertEqual(seen(gate), expected(LIMITS, (7, 0, 0, 0, 0), 5, type(gate).__name__))

    def test_undo(self):
        for gate, _ in several(LIMITS, 4, 4):
            name = type(gate).__name__
            gate.tick(7)
            gate.rest()
            gate.come = (3, 2)
            gate.tick(1)
            for row, changes in (((3, 2), 6), ((7, 0, 0, 0, 0), 5), ((7, 0, 0, 0), 4)):
                gate.undo()
                self.assertEqual(seen(gate), expected(LIMITS, row, changes, name))
            for _ in range(4):
                gate.undo()
            self.assertEqual(seen(gate), expected(LIMITS, (), 0, name))
            with self.assertRaises(NothingDone):
                gate.undo()

    def test_any_steps(self):
        source = seeded(63)
        for _ in range(40):
            limits = random_limits(source)
            for gate, told in several(limits, source.randint(0, 12), source.randint(0, 30)):
                states = [seen(gate)]
                for _ in range(12):
                    row, amounts = gate.come, random_row(source, 3, 6)
                    step = source.choice(["run", "assign", "rest", "undo"])
                    if step == "run" and sum(row + amounts) <= 60:
                        if refusal(gate.run, *amounts) is None:
                            self.assertIsNone(first_refusal(limits, row + amounts, **told))
                            states += [expected(limits, row + amounts[:many], len(states) - 1 + many, type(gate).__name__)
                                       for many in range(1, len(amounts) + 1)]
                    elif step == "assign":
                        if refusal(gate.assign_come, amounts) is None:
                            states.append(expected(limits, amounts, len(states), type(gate).__name__))
                    elif step == "rest":
                        many = gate.rest()
                        states += [expected(limits, row + (0,) * ticks, len(states) - 1 + ticks, type(gate).__name__)
                                   for ticks in range(1, many + 1)]
                    elif step == "undo" and len(states) > 1:
                        gate.undo()
                        states.pop()
                    self.assertEqual(seen(gate), states[-1])
                for state in states[-2::-1]:
                    gate.undo()
                    self.assertEqual(seen(gate), state)

    def test_trying_with_what_is_refused(self):
        for gate, _ in several(LIMITS, 0, 0):
            gate.tick(3)
            before = seen(gate)
            with self.assertRaises((Full, Late)):
                with gate.trying():
                    gate.tick(2)
                    gate.undo()
                    gate.undo()
                    gate.tick(4)
            self.assertEqual(seen(gate), before)


if __name__ == "__main__":
    unittest.main()
