"""Promise [20] and the lines of the overview [1] that need only Limits."""

import itertools
import unittest

from burstlimits.limits import Limits
from burstlimits.rows import verdict
from tests.samples import keeps, random_limits, seeded, stretch


def least_by_search(pairs, length):
    """The least sum over all choices of limits that cover the length, each one so often as can help."""
    best = None
    counts = [range(-(-length // pair[0]) + 1) for pair in pairs]
    for choice in itertools.product(*counts):
        covered = sum([count * pair[0] for count, pair in zip(choice, pairs)])
        total = sum([count * pair[1] for count, pair in zip(choice, pairs)])
        if covered >= length and (best is None or total < best):
            best = total
    return best


def keeping_rows(limits, ticks):
    """All rows of so many ticks that keep the limits."""
    rows = [()]
    for _ in range(ticks):
        longer = [(*row, part) for row in rows for part in range(21)]
        rows = [row for row in longer if all([stretch(row, len(row) - pair[0], pair[0]) <= pair[1] for pair in limits.pairs])]
    return rows


class Overview(unittest.TestCase):
    def test_numbers(self):
        limits = Limits((1, 3), (4, 5))
        self.assertEqual((limits(4), limits(5), limits(9)), (5, 8, 13))

    def test_the_other_lengths(self):
        limits = Limits((1, 3), (4, 5))
        self.assertEqual([limits(length) for length in range(14)], [0, 3, 5, 5, 5, 8, 10, 10, 10, 13, 15, 15, 15, 18])

    def test_rows(self):
        limits = Limits((1, 3), (4, 5))
        self.assertEqual(verdict(limits, (3, 2)), ("kept",))
        self.assertEqual(verdict(limits, (3, 2, 0, 0, 3)), ("kept",))


class Sums(unittest.TestCase):
    def test_length_zero(self):
        source = seeded(2)
        for _ in range(50):
            self.assertEqual(random_limits(source)(0), 0)

    def test_one_limit(self):
        for length in range(1, 21):
            for most in (1, 7, 20):
                limits = Limits((length, most))
                for covered in (1, length, length + 1, 2 * length, 2 * length + 1, 999, 1000):
                    self.assertEqual(limits(covered), -(-covered // length) * most)

    def test_a_longer_limit_may_be_cheaper(self):
        self.assertEqual(Limits((1, 9), (5, 4))(1), 4)
        self.assertEqual(Limits((5, 4), (3, 20))(3), 4)
        self.assertEqual(Limits((2, 4), (4, 8), (5, 9))(6), 12)

    def test_dearest_limits_do_not_mislead(self):
        self.assertEqual(Limits((1, 2), (6, 7), (10, 13))(12), 14)
        self.assertEqual(Limits((3, 4), (5, 7))(8), 11)
        self.assertEqual(Limits((3, 4), (5, 7))(9), 12)

    def test_against_a_search(self):
        source = seeded(3)
        for _ in range(150):
            limits = random_limits(source, 3)
            for length in range(10):
                self.assertEqual(limits(length), least_by_search(limits.pairs, length))
        for _ in range(12):
            limits = random_limits(source, 6)
            self.assertEqual(limits(4), least_by_search(limits.pairs, 4))

    def test_lengths_up_to_the_greatest(self):
        self.assertEqual(Limits((7, 3), (3, 2))(1000), 429)
        self.assertEqual(Limits((20, 20))(1000), 1000)
        self.assertEqual(Limits((1, 20))(1000), 20000)
        self.assertEqual(Limits((20, 1), (1, 1))(1000), 50)
        self.assertEqual(Limits((20, 1), (1, 1))(981), 50)
        self.assertEqual(Limits((20, 1), (1, 1))(980), 49)

    def test_never_falls_with_the_length(self):
        source = seeded(4)
        for _ in range(30):
            limits = random_limits(source)
            sums = [limits(length) for length in range(60)]
            self.assertEqual(sums, sorted(sums))

    def test_the_greatest_number_of_requests_in_rows(self):
        for limits in (Limits((1, 2), (3, 3)), Limits((2, 3)), Limits((1, 3), (2, 4), (4, 5)), Limits((3, 2), (2, 1)),
                       Limits((5, 3), (4, 3)), Limits((1, 1)), Limits((2, 5), (3, 4))):
            for ticks in range(6):
                rows = keeping_rows(limits, ticks)
                self.assertTrue(all([keeps(limits, row) for row in rows]))
                self.assertEqual(max([sum(row) for row in rows]), limits(ticks), (limits.pairs, ticks))


if __name__ == "__main__":
    unittest.main()
