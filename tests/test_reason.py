"""Promise [21]: reason, shows_reason, fullest."""

import itertools
import unittest

from burstlimits.curves import fullest, reason, shows_reason
from burstlimits.errors import NoLength, NoLimits
from burstlimits.limits import Limits
from tests.samples import (any_values, deep, keeps, least_sums, random_limits, seeded, wrong_integers, wrong_limits)

LIMITS = Limits((1, 3), (4, 5))
SEVERAL = [
    LIMITS, Limits((4, 5), (1, 3)), Limits((1, 1)), Limits((20, 20)), Limits((3, 2), (2, 1)), Limits((1, 9), (5, 4)),
    Limits((2, 2), (3, 3), (5, 5)), Limits((1, 1), (2, 2), (3, 3), (4, 4), (5, 5), (6, 6)),
    Limits((6, 6), (5, 5), (4, 4), (3, 3), (2, 2), (1, 1)), Limits((7, 3), (3, 2)), Limits((6, 7), (10, 13), (1, 2)),
    Limits((19, 17), (17, 15), (13, 12), (11, 10), (7, 7), (5, 5)),
]


def by_search(limits, length):
    """Over all choices of so many numbers as can be needed: the least sum, the fewest numbers, the first."""
    found = []
    for many in range(length + 1):
        for numbers in itertools.combinations_with_replacement(range(len(limits)), many):
            if sum([limits[number][0] for number in numbers]) >= length:
                found.append((sum([limits[number][1] for number in numbers]), many, numbers))
    return min(found)[2]


def number_by_number(limits, length):
    """The same, built up from the first number on, by what is possible with the numbers from each one on."""
    # best[number][covered]: the least (sum, many) that covers this length with this number and later ones.
    best = [[(0, 0)] + [(10 ** 9, 0)] * length]
    for reach, most in reversed(limits.pairs):
        row = [(0, 0)]
        for covered in range(1, length + 1):
            amount, many = row[max(0, covered - reach)]
            row.append(min(best[0][covered], (amount + most, many + 1)))
        best.insert(0, row)
    numbers, number = [], 0
    while length > 0:
        reach, most = limits[number]
        amount, many = best[number][max(0, length - reach)]
        if (amount + most, many + 1) == best[number][length]:
            numbers.append(number)
            length = max(0, length - reach)
        else:
            number += 1
    return tuple(numbers)


class Reasons(unittest.TestCase):
    def test_lines_of_the_overview_and_near(self):
        self.assertEqual([reason(LIMITS, length) for length in range(6)], [(), (0,), (1,), (1,), (1,), (0, 1)])
        self.assertEqual(reason(LIMITS, 9), (0, 1, 1))
        self.assertEqual(reason(LIMITS, 200), (1,) * 50)

    def test_length_zero(self):
        for limits in SEVERAL:
            self.assertEqual(reason(limits, 0), ())

    def test_every_length_of_several_limits(self):
        for limits in SEVERAL:
            for length in range(201):
                numbers = reason(limits, length)
                self.assertIs(type(numbers), tuple)
                self.assertEqual(numbers, tuple(sorted(numbers)))
                self.assertGreaterEqual(sum([limits[number][0] for number in numbers]), length)
                self.assertEqual(sum([limits[number][1] for number in numbers]), limits(length))
                self.assertEqual(numbers, number_by_number(limits, length), (limits.pairs, length))

    def test_short_lengths_against_a_search_over_all_choices(self):
        source = seeded(21)
        made = [random_limits(source, 4, 5) for _ in range(120)]
        made += [Limits(*[(length, length) for length in source.sample(range(1, 6), 4)]) for _ in range(30)]
        for limits in [*SEVERAL[:7], *made]:
            for length in range(7):
                self.assertEqual(reason(limits, length), by_search(limits, length), (limits.pairs, length))
                self.assertEqual(number_by_number(limits, length), by_search(limits, length))

    def test_any_length_of_random_limits(self):
        source = seeded(22)
        for _ in range(60):
            limits = random_limits(source, 6, source.choice([4, 8, 20]))
            for length in source.sample(range(201), 8):
                self.assertEqual(reason(limits, length), number_by_number(limits, length), (limits.pairs, length))

    def test_the_least_sum_comes_first(self):
        self.assertEqual(reason(Limits((5, 7), (1, 1)), 5), (1, 1, 1, 1, 1))
        self.assertEqual(reason(Limits((5, 5), (1, 1)), 5), (0,))

    def test_the_fewest_numbers_come_next(self):
        self.assertEqual(reason(Limits((1, 1), (2, 2), (3, 3)), 3), (2,))
        self.assertEqual(reason(Limits((1, 1), (2, 2), (3, 3)), 6), (2, 2))
        self.assertEqual(reason(Limits((1, 2), (2, 2)), 2), (1,))

    def test_the_first_of_several_comes_last(self):
        self.assertEqual(reason(Limits((1, 1), (2, 2), (3, 3)), 4), (0, 2))
        self.assertEqual(reason(Limits((3, 3), (2, 2), (1, 1)), 4), (0, 2))
        self.assertEqual(reason(Limits((2, 2), (3, 3), (1, 1)), 4), (0, 0))
        self.assertEqual(reason(Limits((4, 3), (3, 3)), 3), (0,))
        self.assertEqual(reason(Limits((3, 3), (4, 3)), 3), (0,))
        self.assertEqual(reason(Limits((3, 3), (4, 3)), 7), (0, 1))

    def test_lengths_beyond_the_one_asked_for(self):
        self.assertEqual(reason(Limits((1, 9), (5, 4)), 1), (1,))
        self.assertEqual(reason(Limits((1, 9), (5, 4)), 6), (1, 1))
        self.assertEqual(reason(Limits((3, 4), (5, 7), (20, 5)), 8), (2,))

    def test_lengths_that_are_none(self):
        for wrong in wrong_integers(0, 200):
            with self.assertRaises(NoLength):
                reason(LIMITS, wrong)
            with self.assertRaises(NoLength):
                shows_reason(LIMITS, wrong, ())

    def test_wrong_limits_and_both_wrong(self):
        for wrong in wrong_limits():
            for length in (0, 5, 201, -1, True, "5", None):
                with self.assertRaises(NoLimits):
                    reason(wrong, length)
                with self.assertRaises(NoLimits):
                    shows_reason(wrong, length, ())


class Shown(unittest.TestCase):
    def test_a_right_answer_in_every_order(self):
        limits = Limits((1, 2), (2, 3), (4, 7))
        for length in range(10):
            for numbers in set(itertools.permutations(reason(limits, length))):
                self.assertIs(shows_reason(limits, length, numbers), True)

    def test_every_choice_of_few_numbers(self):
        source = seeded(23)
        for _ in range(40):
            limits = random_limits(source, 3, 6)
            for length in range(7):
                for many in range(5):
                    for numbers in itertools.product(range(-1, len(limits) + 1), repeat=many):
                        right = all([0 <= number < len(limits) for number in numbers])
                        right = right and sum([limits[number][0] for number in numbers]) >= length
                        right = right and sum([limits[number][1] for number in numbers]) == limits(length)
                        self.assertIs(shows_reason(limits, length, numbers), right)

    def test_more_numbers_than_the_fewest(self):
        limits = Limits((1, 1), (2, 2), (3, 3))
        for numbers in ((2,), (0, 1), (1, 0), (0, 0, 0)):
            self.assertTrue(shows_reason(limits, 3, numbers))

    def test_a_number_more_less_or_otherwise(self):
        for numbers in ((), (0,), (1,), (0, 0), (1, 1), (0, 0, 1), (0, 1, 1), (0, 1, 0)):
            self.assertFalse(shows_reason(LIMITS, 5, numbers))
        for length in (6, 7, 8):
            self.assertTrue(shows_reason(LIMITS, length, (1, 1)))
            self.assertFalse(shows_reason(LIMITS, length, (0, 1)))

    def test_numbers_that_are_none(self):
        for numbers in ((0, -1), (-2, 1), (0, 2), (0, True), (False, 1), (0, 10 ** 12), (0, "1"), (0, None), (0, (1,)),
                        (0, [1]), (0, LIMITS), ((0, 1),), ([0, 1],), (0, 1, None), (0, 1, False)):
            self.assertIs(shows_reason(LIMITS, 5, numbers), False)
        self.assertTrue(shows_reason(LIMITS, 5, (1, 0)))

    def test_lists_and_others(self):
        for thing in ([0, 1], {0: 1}, "01", "", 0, 1, None, True, {0: True, 1: True}, LIMITS, deep(20)):
            self.assertIs(shows_reason(LIMITS, 5, thing), False)
        self.assertIs(shows_reason(LIMITS, 0, []), False)
        self.assertIs(shows_reason(LIMITS, 0, None), False)
        self.assertIs(shows_reason(LIMITS, 0, ()), True)

    def test_any_value(self):
        for value in any_values():
            self.assertIs(shows_reason(LIMITS, 0, value), isinstance(value, tuple) and len(value) == 0)
            self.assertIs(shows_reason(LIMITS, 4, value), isinstance(value, tuple) and value == (1,) and value[0] is not True)
            for thing in ([value], (value, value), (0, value), {"key": value}):
                self.assertIs(shows_reason(LIMITS, 5, thing), type(value) is int and thing == (0, 1))

    def test_the_greatest_length_and_many_parts(self):
        self.assertTrue(shows_reason(LIMITS, 200, (1,) * 50))
        self.assertFalse(shows_reason(LIMITS, 200, (1,) * 51))
        self.assertFalse(shows_reason(LIMITS, 200, (1,) * 8000))
        self.assertFalse(shows_reason(LIMITS, 0, (0,) * 8000))


class Fullest(unittest.TestCase):
    def test_few_ticks(self):
        self.assertEqual([fullest(LIMITS, ticks) for ticks in range(4)], [(), (3,), (3, 2), (3, 2, 0)])
        self.assertEqual(fullest(LIMITS, 9), (3, 2, 0, 0, 3, 2, 0, 0, 3))
        self.assertEqual(fullest(Limits((3, 2), (2, 1)), 5), (1, 0, 1, 0, 1))

    def test_every_beginning_has_as_many_as_can_be(self):
        source = seeded(24)
        for limits in [*SEVERAL, *[random_limits(source) for _ in range(60)]]:
            sums = least_sums(limits, 60)
            whole = fullest(limits, 60)
            for ticks in range(61):
                row = fullest(limits, ticks)
                self.assertIs(type(row), tuple)
                self.assertEqual(len(row), ticks)
                self.assertEqual(row, whole[:ticks])
                self.assertEqual(sum(row), min(60, sums[ticks]))
            self.assertTrue(min(whole) >= 0)
            self.assertTrue(keeps(limits, whole))

    def test_more_than_sixty(self):
        self.assertEqual(fullest(Limits((1, 20)), 5), (20, 20, 20, 0, 0))
        self.assertEqual(fullest(Limits((1, 7)), 10), (7,) * 8 + (4, 0))
        self.assertEqual(sum(fullest(Limits((20, 20), (1, 19)), 60)), 60)
        self.assertEqual(fullest(Limits((20, 20), (1, 19)), 42), (19, 1) + (0,) * 18 + (19, 1) + (0,) * 18 + (19, 1))

    def test_lengths_that_are_none(self):
        for wrong in wrong_integers(0, 60):
            with self.assertRaises(NoLength):
                fullest(LIMITS, wrong)

    def test_wrong_limits_and_both_wrong(self):
        for wrong in wrong_limits():
            for ticks in (0, 60, 61, -1, True, "6"):
                with self.assertRaises(NoLimits):
                    fullest(wrong, ticks)


if __name__ == "__main__":
    unittest.main()
