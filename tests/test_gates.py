"""Promise [40]: the class Gate."""

import unittest

from burstlimits.errors import NoAmount, NoLimits, NoNumber, NoRow, NothingDone, TooMany
from burstlimits.gates import Bounded, Gate, Prompt, PromptBounded
from burstlimits.limits import Limits
from burstlimits.passing import passed
from tests.samples import (any_values, gates, passed_by_formula, random_limits, random_row, seeded, through_by_formula,
                           wrong_integers, wrong_limits, wrong_rows)

LIMITS = Limits((1, 3), (4, 5))


def seen(gate):
    """All that can be seen of a gate."""
    return (gate.limits, gate.come, gate.through, gate.waiting, gate.changes, len(gate), repr(gate),
            [gate[tick] for tick in range(len(gate))])


def expected(limits, row, changes, name="Gate"):
    """What is to be seen of a gate at which this row has come."""
    through = through_by_formula(limits, row, len(row))
    held = sum(row) - sum(through)
    return (limits, row, through, held, changes, len(row), f"{name}({len(row)} ticks, {held} waiting)", list(through))


def refusal(case, call, *args):
    """The fields of the TooMany that the call raises."""
    with case.assertRaises(TooMany) as caught:
        call(*args)
    return caught.exception.amount, caught.exception.limit


class Ticks(unittest.TestCase):
    def test_a_new_gate(self):
        gate = Gate(LIMITS)
        self.assertEqual(seen(gate), (LIMITS, (), (), 0, 0, 0, "Gate(0 ticks, 0 waiting)", []))
        self.assertIs(gate.limits, LIMITS)

    def test_the_row_of_the_overview(self):
        gate = Gate(LIMITS)
        self.assertEqual([gate.tick(amount) for amount in (7, 0, 0, 0, 1)], [3, 2, 0, 0, 3])
        self.assertEqual((gate.come, gate.through, gate.waiting), ((7, 0, 0, 0, 1), (3, 2, 0, 0, 3), 0))

    def test_tick_call_and_run_against_the_formula(self):
        source = seeded(51)
        for _ in range(250):
            limits, row = random_limits(source), random_row(source)
            ticked, called, ran = Gate(limits), Gate(limits), Gate(limits)
            through = through_by_formula(limits, row, len(row))
            self.assertEqual(tuple([ticked.tick(amount) for amount in row]), through)
            self.assertEqual(tuple([called(amount) for amount in row]), through)
            at = source.randint(0, len(row))
            self.assertEqual((ran.run(*row[:at]), ran.run(*row[at:])), (through[:at], through[at:]))
            for gate in (ticked, called, ran):
                self.assertEqual(seen(gate), expected(limits, row, len(row)))

    def test_after_each_tick(self):
        source = seeded(52)
        for _ in range(40):
            limits, row = random_limits(source), random_row(source)
            gate = Gate(limits)
            for tick, amount in enumerate(row):
                gate.tick(amount)
                self.assertEqual(seen(gate), expected(limits, row[:tick + 1], tick + 1))

    def test_kinds(self):
        gate = Gate(LIMITS)
        self.assertEqual([type(value) for value in (gate.tick(4), gate(1), gate.rest(), gate.waiting, gate.changes, gate[0])],
                         [int] * 6)
        self.assertEqual([type(value) for value in (gate.run(), gate.run(1), gate.come, gate.through)], [tuple] * 4)

    def test_the_least_and_greatest_amounts(self):
        self.assertEqual(Gate(LIMITS).tick(0), 0)
        self.assertEqual(Gate(LIMITS).tick(60), 3)
        self.assertEqual(Gate(Limits((1, 20)))(60), 20)
        gate = Gate(LIMITS)
        self.assertEqual(gate.run(30, 30, 0), (3, 2, 0))
        self.assertEqual(gate.waiting, 55)

    def test_amounts_that_are_none(self):
        for wrong in wrong_integers(0, 60):
            for gate in (Gate(LIMITS), Prompt(LIMITS, 100)):
                gate.run(2, 3)
                before = seen(gate)
                for call in (gate.tick, gate, gate.run):
                    with self.assertRaises(NoAmount):
                        call(wrong)
                    self.assertEqual(seen(gate), before)

    def test_more_than_sixty_in_all(self):
        gate = Gate(LIMITS)
        gate.run(50, 5)
        before = seen(gate)
        for call in (gate.tick, gate, gate.run):
            self.assertEqual(refusal(self, call, 6), (61, 60))
            self.assertEqual(refusal(self, call, 60), (115, 60))
            self.assertEqual(seen(gate), before)
        self.assertEqual(gate.tick(5), 0)
        self.assertEqual(refusal(self, gate.tick, 1), (61, 60))
        self.assertEqual(gate.tick(0), 0)

    def test_no_amount_comes_before_too_many(self):
        gate = Gate(LIMITS)
        gate.tick(60)
        with self.assertRaises(NoAmount):
            gate.tick(61)
        self.assertEqual(refusal(self, gate.tick, 60), (120, 60))

    def test_wrong_limits(self):
        for wrong in wrong_limits():
            with self.assertRaises(NoLimits):
                Gate(wrong)


class Runs(unittest.TestCase):
    def test_without_amounts(self):
        for gate in gates(LIMITS):
            before = seen(gate)
            self.assertEqual(gate.run(), ())
            self.assertEqual(seen(gate), before)
            gate.run(1, 2)
            self.assertEqual(gate.run(), ())
            self.assertEqual(gate.changes, 2)

    def test_what_is_let_through_in_each_of_its_own_ticks(self):
        gate = Gate(LIMITS)
        self.assertEqual(gate.run(7), (3,))
        self.assertEqual(gate.run(0, 0, 0, 1), (2, 0, 0, 3))

    def test_none_goes_by_if_one_is_refused(self):
        gate = Gate(LIMITS)
        gate.run(4, 1)
        before = seen(gate)
        for amounts in ((1, -1), (1, 2, True), (0, 0, "1"), (1, None, 1), (-1, 1), ((1,),), ([1, 2],), (1, 61)):
            with self.assertRaises(NoAmount):
                gate.run(*amounts)
            self.assertEqual(seen(gate), before)
        for amounts, sums in (((30, 30), 65), ((1, 55), 61), ((0, 60, 1), 65), ((55, 0, 60), 120)):
            self.assertEqual(refusal(self, gate.run, *amounts), (sums, 60))
            self.assertEqual(seen(gate), before)

    def test_the_first_one_that_is_refused_counts(self):
        gate = Gate(LIMITS)
        for behind in (-1, True, None, "1", 61, [1]):
            self.assertEqual(refusal(self, gate.run, 60, 1, behind), (61, 60))
            self.assertEqual(refusal(self, gate.run, 60, 2, behind, 60), (62, 60))
            with self.assertRaises(NoAmount):
                gate.run(60, behind, 1)
        self.assertEqual(seen(gate), seen(Gate(LIMITS)))

    def test_many_ticks(self):
        gate = Gate(LIMITS)
        amounts = [0] * 3000
        self.assertEqual(gate.run(*amounts, 4, 0), (0,) * 3000 + (3, 1))
        self.assertEqual((len(gate), gate.changes, gate[3000], gate[3001]), (3002, 3002, 3, 1))


class Rests(unittest.TestCase):
    def test_where_none_waits(self):
        for gate in gates(LIMITS):
            self.assertEqual(gate.rest(), 0)
            gate.run(3, 2)
            before = seen(gate)
            self.assertEqual(gate.rest(), 0)
            self.assertEqual(seen(gate), before)

    def test_until_none_waits(self):
        gate = Gate(LIMITS)
        gate.tick(7)
        self.assertEqual(gate.rest(), 4)
        self.assertEqual(seen(gate), expected(LIMITS, (7, 0, 0, 0, 0), 5))
        self.assertEqual(gate.through, (3, 2, 0, 0, 2))

    def test_many_ticks(self):
        gate = Gate(Limits((20, 1)))
        gate.tick(60)
        self.assertEqual(gate.rest(), 1180)
        self.assertEqual((len(gate), gate.changes, gate.waiting), (1181, 1181, 0))
        self.assertEqual(gate.through, passed(Limits((20, 1)), (60,)))
        self.assertEqual(gate.come, (60,) + (0,) * 1180)

    def test_against_passed(self):
        source = seeded(53)
        for _ in range(200):
            limits, row = random_limits(source), random_row(source)
            gate = Gate(limits)
            gate.run(*row)
            through = passed_by_formula(limits, row)
            self.assertEqual(gate.rest(), len(through) - len(row))
            self.assertEqual((gate.through, gate.waiting, gate.changes), (through, 0, len(through)))

    def test_each_tick_of_it_is_taken_back_alone(self):
        gate = Gate(LIMITS)
        gate.tick(7)
        gate.rest()
        gate.undo()
        self.assertEqual(seen(gate), expected(LIMITS, (7, 0, 0, 0), 4))
        self.assertEqual(gate.rest(), 1)


class Assignments(unittest.TestCase):
    def test_longer_shorter_present_and_empty(self):
        for assign in (lambda gate, row: setattr(gate, "come", row), lambda gate, row: gate.assign_come(row),
                       lambda gate, row: gate.assign_come(row=row)):
            gate = Gate(LIMITS)
            gate.run(7, 1)
            for changes, row in enumerate(((7, 0, 0, 0, 1, 9), (2,), (2,), (), (), (0, 0), (60,), (0, 60, 0)), 3):
                assign(gate, row)
                self.assertEqual(seen(gate), expected(LIMITS, row, changes))

    def test_assign_come_returns_none(self):
        self.assertIsNone(Gate(LIMITS).assign_come((1, 2)))

    def test_the_present_row_counts_too(self):
        gate = Gate(LIMITS)
        gate.run(7, 1)
        gate.come = gate.come
        self.assertEqual(seen(gate), expected(LIMITS, (7, 1), 3))
        gate.undo()
        self.assertEqual(seen(gate), expected(LIMITS, (7, 1), 2))

    def test_ticks_behind_it(self):
        source = seeded(54)
        for _ in range(150):
            limits, row, other = random_limits(source), random_row(source, 8, 30), random_row(source, 8, 30)
            gate = Gate(limits)
            gate.run(*random_row(source, 5))
            ahead = gate.changes
            gate.come = row
            self.assertEqual(seen(gate), expected(limits, row, ahead + 1))
            gate.run(*other)
            self.assertEqual(seen(gate), expected(limits, row + other, ahead + 1 + len(other)))

    def test_the_sum_begins_again(self):
        gate = Gate(LIMITS)
        gate.tick(60)
        gate.come = (10,)
        self.assertEqual(gate.tick(50), 2)
        self.assertEqual(refusal(self, gate.tick, 1), (61, 60))

    def test_no_row(self):
        for gate in gates(LIMITS):
            gate.run(2, 1)
            before = seen(gate)
            for wrong in wrong_rows():
                with self.assertRaises(NoRow):
                    gate.come = wrong
                with self.assertRaises(NoRow):
                    gate.assign_come(wrong)
                self.assertEqual(seen(gate), before)

    def test_long_rows(self):
        gate = Gate(LIMITS)
        gate.come = (0,) * 7000 + (4,)
        self.assertEqual((len(gate), gate[7000], gate.waiting, gate.changes), (7001, 3, 1, 1))


class TakenBack(unittest.TestCase):
    def test_nothing_done(self):
        for gate in gates(LIMITS):
            before = seen(gate)
            with self.assertRaises(NothingDone):
                gate.undo()
            self.assertEqual(seen(gate), before)
            gate.tick(1)
            self.assertIsNone(gate.undo())
            with self.assertRaises(NothingDone):
                gate.undo()
            self.assertEqual(seen(gate), before)

    def test_one_by_one_back_to_the_beginning(self):
        gate = Gate(LIMITS)
        told = [seen(gate)]
        for row in ((5,), (5, 4), (5, 4, 0)):
            gate.tick(row[-1])
            told.append(seen(gate))
        gate.run(1, 2)
        told += [expected(LIMITS, (5, 4, 0, 1), 4), expected(LIMITS, (5, 4, 0, 1, 2), 5)]
        gate.come = (9,)
        told.append(seen(gate))
        gate.rest()
        told += [expected(LIMITS, (9,) + (0,) * ticks, 6 + ticks) for ticks in range(1, len(gate))]
        gate.come = ()
        told.append(seen(gate))
        gate.tick(2)
        self.assertEqual(seen(gate), expected(LIMITS, (2,), len(told)))
        for state in told[::-1]:
            gate.undo()
            self.assertEqual(seen(gate), state)
        with self.assertRaises(NothingDone):
            gate.undo()

    def test_any_steps(self):
        source = seeded(55)
        for _ in range(60):
            limits = random_limits(source)
            gate = Gate(limits)
            told = [seen(gate)]
            for _ in range(25):
                step = source.choice(["tick", "run", "rest", "assign", "undo", "undo", "undo"])
                row = gate.come
                if step == "undo" and len(told) > 1:
                    gate.undo()
                    told.pop()
                elif step == "assign":
                    gate.come = random_row(source, 6, 20)
                    told.append(expected(limits, gate.come, len(told)))
                elif step == "rest":
                    for tick in range(gate.rest()):
                        told.append(expected(limits, row + (0,) * (tick + 1), len(told)))
                elif step == "tick" or step == "run":
                    amounts = random_row(source, 3, min(8, 60 - sum(row)))
                    gate.run(*amounts)
                    for tick in range(len(amounts)):
                        told.append(expected(limits, row + amounts[:tick + 1], len(told)))
                self.assertEqual(seen(gate), told[-1])
            for state in told[-2::-1]:
                gate.undo()
                self.assertEqual(seen(gate), state)

    def test_a_tick_taken_back_can_be_made_again(self):
        gate = Gate(LIMITS)
        gate.run(3, 2)
        gate.undo()
        self.assertEqual(gate.tick(1), 1)
        self.assertEqual(gate.come, (3, 1))
        self.assertEqual(gate.run(56), (1,))

    def test_what_was_refused_is_not_taken_back(self):
        gate = Gate(LIMITS)
        gate.run(3, 2)
        for call in (lambda: gate.tick(-1), lambda: gate.run(1, 2, 61), lambda: gate.assign_come([1]), lambda: gate.tick(60)):
            with self.assertRaises(ValueError):
                call()
        gate.undo()
        self.assertEqual(seen(gate), expected(LIMITS, (3,), 1))


class Tried(unittest.TestCase):
    def test_a_block_that_ends_well(self):
        for gate in gates(LIMITS):
            gate.tick(1)
            with gate.trying():
                gate.tick(2)
                gate.come = (0, 2)
            self.assertEqual((gate.come, gate.changes), ((0, 2), 3))

    def test_a_block_that_an_exception_leaves(self):
        for error in (NoAmount, NothingDone, KeyError, ZeroDivisionError, KeyboardInterrupt, StopIteration):
            for gate in gates(LIMITS):
                gate.run(1, 2)
                before = seen(gate)
                with self.assertRaises(error):
                    with gate.trying():
                        gate.tick(2)
                        gate.come = (2, 1, 0)
                        gate.rest()
                        raise error
                self.assertEqual(seen(gate), before)
                gate.undo()
                gate.undo()
                self.assertEqual((gate.come, gate.changes), ((), 0))

    def test_an_exception_of_the_gate_itself(self):
        gate = Gate(LIMITS)
        gate.tick(7)
        before = seen(gate)
        with self.assertRaises(TooMany) as caught:
            with gate.trying():
                gate.run(1, 1)
                gate.tick(60)
        self.assertEqual((caught.exception.amount, caught.exception.limit), (69, 60))
        self.assertEqual(seen(gate), before)

    def test_an_exception_that_does_not_leave_the_block(self):
        gate = Gate(LIMITS)
        with gate.trying():
            gate.tick(4)
            with self.assertRaises(NoAmount):
                gate.tick(-1)
            gate.tick(5)
        self.assertEqual(gate.come, (4, 5))

    def test_undo_inside(self):
        gate = Gate(LIMITS)
        gate.run(3, 2, 4)
        gate.come = (1,)
        before = seen(gate)
        with self.assertRaises(KeyError):
            with gate.trying():
                gate.undo()
                gate.undo()
                gate.run(9, 9)
                gate.come = (5, 5)
                gate.undo()
                raise KeyError
        self.assertEqual(seen(gate), before)
        for row in ((3, 2, 4), (3, 2), (3,), ()):
            gate.undo()
            self.assertEqual(seen(gate), expected(LIMITS, row, len(row)))
        with gate.trying():
            gate.tick(1)
            gate.undo()
        self.assertEqual(seen(gate), expected(LIMITS, (), 0))

    def test_undo_to_the_beginning_inside(self):
        gate = Gate(LIMITS)
        gate.run(3, 2)
        before = seen(gate)
        with self.assertRaises(NothingDone):
            with gate.trying():
                while True:
                    gate.undo()
        self.assertEqual(seen(gate), before)

    def test_nested(self):
        gate = Gate(LIMITS)
        gate.tick(1)
        with gate.trying():
            gate.tick(2)
            with self.assertRaises(KeyError):
                with gate.trying():
                    gate.undo()
                    gate.undo()
                    gate.tick(3)
                    raise KeyError
            self.assertEqual(seen(gate), expected(LIMITS, (1, 2), 2))
            gate.tick(4)
        self.assertEqual(seen(gate), expected(LIMITS, (1, 2, 4), 3))
        with self.assertRaises(KeyError):
            with gate.trying():
                gate.tick(5)
                with gate.trying():
                    gate.tick(6)
                self.assertEqual(gate.come, (1, 2, 4, 5, 6))
                raise KeyError
        self.assertEqual(seen(gate), expected(LIMITS, (1, 2, 4), 3))
        with self.assertRaises(KeyError):
            with gate.trying():
                gate.undo()
                with gate.trying():
                    gate.tick(6)
                    raise KeyError
        self.assertEqual(seen(gate), expected(LIMITS, (1, 2, 4), 3))

    def test_the_block_begins_where_the_statement_does(self):
        gate = Gate(LIMITS)
        made = gate.trying()
        gate.tick(1)
        with self.assertRaises(KeyError):
            with made:
                gate.tick(2)
                raise KeyError
        self.assertEqual(seen(gate), expected(LIMITS, (1,), 1))

    def test_each_gate_for_itself(self):
        one, other = Gate(LIMITS), Gate(LIMITS)
        with self.assertRaises(KeyError):
            with one.trying():
                one.tick(1)
                other.tick(2)
                raise KeyError
        self.assertEqual((one.come, other.come), ((), (2,)))


class Numbers(unittest.TestCase):
    def test_each_tick(self):
        source = seeded(56)
        for _ in range(50):
            limits, row = random_limits(source), random_row(source)
            gate = Gate(limits)
            gate.come = row
            self.assertEqual(len(gate), len(row))
            self.assertEqual(tuple([gate[tick] for tick in range(len(row))]), gate.through)

    def test_numbers_that_are_none(self):
        for gate in gates(LIMITS):
            with self.assertRaises(NoNumber):
                gate[0]
            gate.run(2, 1, 0)
            others = [value for value in any_values() if type(value) is not int]
            for wrong in (-1, -3, 3, 4, True, False, "0", "", None, 10 ** 12, (0,), [0], slice(0, 1), slice(None), *others):
                with self.assertRaises(NoNumber):
                    gate[wrong]
            self.assertEqual([gate[0], gate[1], gate[2]], [2, 1, 0])
            gate.undo()
            with self.assertRaises(NoNumber):
                gate[2]

    def test_repr(self):
        for name, gate in (("Gate", Gate(LIMITS)), ("Bounded", Bounded(LIMITS, 9)), ("Prompt", Prompt(LIMITS, 9)),
                           ("PromptBounded", PromptBounded(LIMITS, 9, 9))):
            self.assertEqual(repr(gate), name + "(0 ticks, 0 waiting)")
            gate.tick(4)
            self.assertEqual(repr(gate), name + "(1 ticks, 1 waiting)")
            gate.run(2, 0, 0, 1)
            self.assertEqual(repr(gate), name + "(5 ticks, 0 waiting)")
            self.assertEqual(str(gate), repr(gate))
            gate.tick(7)
            self.assertEqual(repr(gate), name + "(6 ticks, 4 waiting)")


class RowsThatGatesGive(unittest.TestCase):
    def test_they_do_not_change_later(self):
        gate = Gate(LIMITS)
        gate.run(7, 0)
        come, through = gate.come, gate.through
        gate.tick(1)
        gate.come = (1,)
        self.assertEqual((come, through), ((7, 0), (3, 2)))

    def test_two_gates_do_not_share(self):
        one, other = Gate(LIMITS), Gate(LIMITS)
        one.run(7, 1)
        self.assertEqual(seen(other), expected(LIMITS, (), 0))
        other.come = one.come
        other.tick(2)
        self.assertEqual(seen(one), expected(LIMITS, (7, 1), 2))


if __name__ == "__main__":
    unittest.main()
