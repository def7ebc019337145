"""Promise [90], as far as it speaks of limits and rows."""

import unittest

from burstlimits.limits import Limits
from burstlimits.rows import merged, tightest, verdict
from tests.samples import keeping_row, keeps, random_limits, seeded, stretch


class Holds(unittest.TestCase):
    def test_two_lengths_together(self):
        source = seeded(12)
        for _ in range(60):
            limits = random_limits(source)
            sums = [limits(length) for length in range(81)]
            for first in range(41):
                for second in range(41):
                    self.assertLessEqual(sums[first + second], sums[first] + sums[second])

    def test_two_great_lengths_together(self):
        source = seeded(13)
        for _ in range(60):
            limits = random_limits(source)
            first = source.randint(0, 1000)
            second = source.randint(0, 1000 - first)
            self.assertLessEqual(limits(first + second), limits(first) + limits(second))

    def test_no_stretch_has_more_than_the_limits_let_by(self):
        source = seeded(14)
        for _ in range(80):
            limits = random_limits(source)
            row = keeping_row(source, limits)
            self.assertEqual(verdict(limits, row), ("kept",))
            for length in range(1, len(row) + 3):
                most = max([stretch(row, start, length) for start in range(len(row))])
                self.assertLessEqual(most, limits(length))
                if length <= 20:
                    self.assertEqual(tightest((row,), length), most)

    def test_merged_rows(self):
        source = seeded(15)
        checked = 0
        for _ in range(200):
            one, other = random_limits(source), random_limits(source)
            first, second = keeping_row(source, one, 15), keeping_row(source, other, 25)
            if sum(first) + sum(second) > 60:
                continue
            checked += 1
            both = merged(first, second)
            for length in range(1, 30):
                for start in range(len(both)):
                    self.assertLessEqual(stretch(both, start, length), one(length) + other(length))
        self.assertGreater(checked, 50)

    def test_merged_rows_that_reach_the_sum(self):
        one, other = Limits((1, 3), (4, 5)), Limits((2, 4))
        both = merged((3, 2), (4, 0, 4))
        self.assertEqual(both, (7, 2, 4))
        self.assertEqual(stretch(both, 0, 1), one(1) + other(1))
        self.assertEqual(stretch(both, 0, 3), one(3) + other(3))

    def test_a_sum_of_limits_is_kept_by_rows_that_keep_both(self):
        source = seeded(16)
        for _ in range(200):
            one, other = random_limits(source, 3), random_limits(source, 3)
            row = keeping_row(source, source.choice([one, other, one + other]), 12)
            self.assertEqual(keeps(one + other, row), keeps(one, row) and keeps(other, row))
            both = verdict(one, row) == verdict(other, row) == ("kept",)
            self.assertEqual(verdict(one + other, row) == ("kept",), both)


if __name__ == "__main__":
    unittest.main()
