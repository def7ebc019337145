"""Promises [30] and [31]: passed, waits, waiting, slowest."""

import inspect
import unittest

from burstlimits.errors import NoLimits, NoRow
from burstlimits.limits import Limits
from burstlimits.passing import all_through, passed, slowest, waiting, waits
from tests.samples import (keeping_row, keeps, passed_by_formula, random_limits, random_row, seeded, waits_one_by_one,
                           wrong_limits, wrong_rows)

LIMITS = Limits((1, 3), (4, 5))
ROW = (7, 0, 0, 0, 1)
# At most one in 20 ticks: 60 at once need 59 times 20 ticks, and one more.
SLOW = Limits((20, 1))


def many_cases(seed, many):
    """Limits and rows, some of them full and some long."""
    source = seeded(seed)
    for _ in range(many):
        limits = random_limits(source, 6, source.choice([3, 8, 20]))
        yield limits, random_row(source, source.choice([2, 6, 20]))


def ticks_of(row):
    """The tick of each request."""
    return [tick for tick, amount in enumerate(row) for _ in range(amount)]


class Passed(unittest.TestCase):
    def test_the_row_of_the_overview(self):
        self.assertEqual(passed(LIMITS, ROW), (3, 2, 0, 0, 3))

    def test_rows_without_requests(self):
        for row in ((), (0,), (0, 0), (0,) * 30):
            self.assertEqual(passed(LIMITS, row), row)

    def test_as_long_as_the_row_or_longer(self):
        self.assertEqual(passed(LIMITS, (7,)), (3, 2, 0, 0, 2))
        self.assertEqual(passed(LIMITS, (7, 0, 0, 0, 0, 0)), (3, 2, 0, 0, 2, 0))
        self.assertEqual(passed(LIMITS, (0, 0, 4, 0)), (0, 0, 3, 1))
        self.assertEqual(passed(LIMITS, (0, 4)), (0, 3, 1))

    def test_rows_that_keep_the_limits(self):
        source = seeded(41)
        for _ in range(150):
            limits = random_limits(source)
            row = keeping_row(source, limits)
            self.assertEqual(passed(limits, row), row)
            self.assertEqual(waits(limits, row), (0,) * sum(row))

    def test_against_the_formula(self):
        for limits, row in many_cases(42, 500):
            through = passed(limits, row)
            self.assertIs(type(through), tuple)
            self.assertEqual(through, passed_by_formula(limits, row), (limits.pairs, row))

    def test_what_it_keeps(self):
        for limits, row in many_cases(43, 300):
            through = passed(limits, row)
            self.assertTrue(keeps(limits, through))
            self.assertEqual(sum(through), sum(row))
            self.assertGreaterEqual(len(through), len(row))
            self.assertTrue(len(through) == len(row) or through[-1] > 0)
            for ticks in range(len(row) + 1):
                self.assertLessEqual(sum(through[:ticks]), sum(row[:ticks]))

    def test_no_other_row_has_more_through(self):
        limits = Limits((1, 2), (3, 3))
        row = (4, 0, 1)
        rows = [()]
        for tick in range(6):
            rows = [(*other, part) for other in rows for part in range(3) if sum(other) + part <= sum(row[:tick + 1])]
            rows = [other for other in rows if keeps(limits, other)]
            most = max([sum(other) for other in rows])
            self.assertEqual(sum(passed(limits, row)[:tick + 1]), most)

    def test_sixty_at_once(self):
        source = seeded(44)
        for _ in range(40):
            limits = random_limits(source)
            self.assertEqual(passed(limits, (60,)), passed_by_formula(limits, (60,)))
        self.assertEqual(passed(Limits((1, 20)), (60,)), (20, 20, 20))
        self.assertEqual(passed(Limits((1, 1)), (60,)), (1,) * 60)

    def test_one_in_twenty_ticks(self):
        expected = ((1,) + (0,) * 19) * 59 + (1,)
        self.assertEqual(passed(SLOW, (60,)), expected)
        self.assertEqual(passed(SLOW, (60,)), passed_by_formula(SLOW, (60,)))
        self.assertEqual(len(passed(SLOW, (60,))), 1181)
        self.assertEqual(waits(SLOW, (60,)), tuple(range(0, 1181, 20)))
        self.assertEqual(passed(SLOW, (1,) * 60), expected)

    def test_long_rows(self):
        row = (0,) * 3000 + (5,) + (0,) * 3000 + (2,)
        self.assertEqual(passed(LIMITS, row), (0,) * 3000 + (3, 2) + (0,) * 2999 + (2,))

    def test_from_any_tick_on(self):
        for limits, row in many_cases(50, 60):
            through = passed(limits, row)
            for tick in range(len(row) + 1):
                held = sum(row[:tick]) - sum(through[:tick])
                self.assertEqual(all_through(limits.pairs, through[:tick], held, row[tick:]), list(through[tick:]))

    def test_the_order_of_the_limits_does_not_count(self):
        for limits, row in many_cases(45, 60):
            self.assertEqual(passed(limits, row), passed(Limits(*limits.pairs[::-1]), row))


class Waits(unittest.TestCase):
    def test_the_row_of_the_overview(self):
        self.assertEqual(waits(LIMITS, ROW), (0, 0, 0, 1, 1, 4, 4, 0))

    def test_without_requests(self):
        for row in ((), (0,), (0, 0)):
            self.assertEqual(waits(LIMITS, row), ())

    def test_from_the_ticks_in_which_they_come_and_are_through(self):
        for limits, row in many_cases(46, 300):
            told = waits(limits, row)
            self.assertIs(type(told), tuple)
            self.assertEqual(len(told), sum(row))
            left = ticks_of(passed(limits, row))
            self.assertEqual(told, tuple([there - here for here, there in zip(ticks_of(row), left)]))
            self.assertGreaterEqual(min(told, default=0), 0)

    def test_each_as_early_as_those_ahead_of_it_allow(self):
        for limits, row in many_cases(47, 40):
            if sum(row) <= 15:
                self.assertEqual(waits(limits, row), waits_one_by_one(limits, row), (limits.pairs, row))


class Waiting(unittest.TestCase):
    def test_the_row_of_the_overview(self):
        self.assertEqual(list(waiting(LIMITS, ROW)), [4, 2, 2, 2, 0])

    def test_rows_without_requests(self):
        self.assertEqual(list(waiting(LIMITS, ())), [])
        self.assertEqual(list(waiting(LIMITS, (0, 0))), [0, 0])

    def test_it_is_a_generator(self):
        self.assertTrue(inspect.isgenerator(waiting(LIMITS, ROW)))

    def test_a_number_for_each_tick_of_passed(self):
        for limits, row in many_cases(48, 300):
            through = passed(limits, row)
            told = list(waiting(limits, row))
            self.assertEqual(told, [sum(row[:tick + 1]) - sum(through[:tick + 1]) for tick in range(len(through))])
            self.assertEqual(told[-1:], [0] * min(1, len(through)))
        self.assertEqual(len(list(waiting(SLOW, (60,)))), 1181)

    def test_two_side_by_side(self):
        first, second = waiting(LIMITS, ROW), waiting(Limits((2, 3)), (9,))
        together = [(next(first), next(second)) for _ in range(5)]
        self.assertEqual(together, [(4, 6), (2, 6), (2, 3), (2, 3), (0, 0)])
        self.assertEqual((next(first, None), next(second, None)), (None, None))
        first, second = waiting(LIMITS, ROW), waiting(LIMITS, ROW)
        self.assertEqual([next(first), next(first), next(second), next(first), next(second)], [4, 2, 4, 2, 2])
        self.assertEqual((list(first), list(second)), ([2, 0], [2, 2, 0]))


class Slowest(unittest.TestCase):
    def test_the_first_of_several(self):
        self.assertEqual(slowest(LIMITS, ROW), (5, 4))
        self.assertEqual(slowest(LIMITS, (3, 2)), (0, 0))
        self.assertEqual(slowest(Limits((1, 1)), (1, 2, 0, 2)), (2, 1))
        self.assertEqual(slowest(SLOW, (60,)), (59, 1180))
        self.assertIs(type(slowest(LIMITS, ROW)), tuple)

    def test_none_without_requests(self):
        for row in ((), (0,), (0, 0)):
            self.assertIsNone(slowest(LIMITS, row))

    def test_against_waits(self):
        for limits, row in many_cases(49, 300):
            told = waits(limits, row)
            expected = min([(-ticks, number) for number, ticks in enumerate(told)], default=None)
            self.assertEqual(slowest(limits, row), None if expected is None else (expected[1], -expected[0]))


class Refused(unittest.TestCase):
    def calls(self):
        return [passed, waits, slowest, lambda limits, row: next(waiting(limits, row))]

    def test_wrong_rows(self):
        for wrong in wrong_rows():
            for call in self.calls():
                with self.assertRaises(NoRow):
                    call(LIMITS, wrong)

    def test_wrong_limits_and_both_wrong(self):
        for wrong in wrong_limits():
            for row in ((), ROW, [1], None, (True,), (61,)):
                for call in self.calls():
                    with self.assertRaises(NoLimits):
                        call(wrong, row)


if __name__ == "__main__":
    unittest.main()
