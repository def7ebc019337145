"""Promise [90]: each of its sentences, over many limits, rows and lengths."""

import unittest

from burstlimits.curves import follows
from burstlimits.gates import Gate
from burstlimits.limits import Limits
from burstlimits.passing import passed, waits
from burstlimits.rows import merged, tightest, verdict
from tests.samples import keeping_row, keeps, random_limits, random_row, seeded, stretch


def ticks_of(row):
    """The tick of each request."""
    return [tick for tick, amount in enumerate(row) for _ in range(amount)]


def together(row, ticks):
    """How many there are in the first ticks together, for each number of ticks."""
    return [sum(row[:tick]) for tick in range(ticks + 1)]


class GatesBehindGates(unittest.TestCase):
    def test_one_gate_with_all_their_limits(self):
        source = seeded(71)
        for _ in range(300):
            one, other = random_limits(source, 3), random_limits(source, 3)
            row = random_row(source, source.choice([2, 8, 20]))
            all_at_once = passed(one + other, row)
            self.assertEqual(passed(one, passed(other, row)), all_at_once, (one.pairs, other.pairs, row))
            self.assertEqual(passed(other, passed(one, row)), all_at_once)
            self.assertEqual(passed(other + one, row), all_at_once)

    def test_six_of_one_limit_each(self):
        source = seeded(72)
        for _ in range(100):
            limits, row = random_limits(source), random_row(source)
            through = row
            for pair in source.sample(limits.pairs, len(limits)):
                through = passed(Limits(pair), through)
            self.assertEqual(through, passed(limits, row))

    def test_gates_tick_by_tick(self):
        source = seeded(73)
        for _ in range(100):
            one, other = random_limits(source, 3), random_limits(source, 3)
            first, second, both = Gate(other), Gate(one), Gate(one + other)
            for amount in random_row(source, 20):
                self.assertEqual(second(first(amount)), both(amount))


class KeptLimits(unittest.TestCase):
    def test_what_keeps_the_limits_passes_unchanged(self):
        source = seeded(74)
        for _ in range(150):
            limits = random_limits(source)
            row = keeping_row(source, limits)
            self.assertEqual(passed(limits, row), row)
            self.assertEqual(passed(limits, passed(limits, row)), row)
            self.assertEqual(Gate(limits).run(*row), row)

    def test_only_that_passes_unchanged(self):
        source = seeded(75)
        for _ in range(300):
            limits, row = random_limits(source), random_row(source)
            self.assertEqual(passed(limits, row) == row, keeps(limits, row))

    def test_another_limit_that_the_requests_kept(self):
        source = seeded(76)
        changed = 0
        for _ in range(300):
            limits, other = random_limits(source), random_limits(source, 3)
            row = keeping_row(source, other)
            through = passed(limits, row)
            changed += through != row
            self.assertTrue(keeps(other, through), (limits.pairs, other.pairs, row))
        self.assertGreater(changed, 100)

    def test_what_follows_is_kept_by_all_that_passes(self):
        source = seeded(77)
        for _ in range(200):
            limits, row = random_limits(source), random_row(source)
            for pair in random_limits(source).pairs:
                if follows(limits, pair)[0] == "follows":
                    self.assertTrue(keeps(Limits(pair), passed(limits, row)))


class LaterOrFewer(unittest.TestCase):
    def test_later(self):
        source = seeded(78)
        for _ in range(300):
            limits, row = random_limits(source), random_row(source, 12, 40)
            came = ticks_of(row)
            later = sorted([tick + source.choice([0, 0, 1, 3, 9]) for tick in came])
            moved = tuple([later.count(tick) for tick in range(max(later, default=-1) + 1)])
            before, now = ticks_of(passed(limits, row)), ticks_of(passed(limits, moved))
            self.assertEqual(len(before), len(now))
            self.assertTrue(all([there <= here for there, here in zip(before, now)]), (limits.pairs, row, moved))

    def test_fewer(self):
        source = seeded(79)
        for _ in range(300):
            limits, row = random_limits(source), random_row(source)
            fewer = tuple([source.randint(0, amount) for amount in row])
            before, now = passed(limits, row), passed(limits, fewer)
            ticks = max(len(before), len(now))
            for most, amount in zip(together(before, ticks), together(now, ticks)):
                self.assertLessEqual(amount, most)

    def test_fewer_by_any_tick(self):
        source = seeded(80)
        for _ in range(300):
            limits, row, other = random_limits(source), random_row(source), random_row(source)
            ticks = max(len(row), len(other))
            # The less of both by any tick: requests that come later than in either row, or not at all.
            least = [min(pair) for pair in zip(together(row, ticks), together(other, ticks))]
            both = tuple([least[tick + 1] - least[tick] for tick in range(ticks)])
            through = passed(limits, both)
            for whole in (passed(limits, row), passed(limits, other)):
                many = max(len(through), len(whole))
                for most, amount in zip(together(whole, many), together(through, many)):
                    self.assertLessEqual(amount, most)

    def test_those_that_come_behind_change_nothing(self):
        source = seeded(81)
        for _ in range(100):
            limits, row, behind = random_limits(source), random_row(source, 8, 30), random_row(source, 8, 30)
            self.assertEqual(waits(limits, row + behind)[:sum(row)], waits(limits, row))


class Holds(unittest.TestCase):
    def test_two_lengths_together(self):
        source = seeded(12)
        for _ in range(60):
            limits = random_limits(source)
            sums = [limits(length) for length in range(81)]
            for first in range(41):
                for second in range(41):
                    self.assertLessEqual(sums[first + second], sums[first] + sums[second])

    def test_two_great_lengths_together(self):
        source = seeded(13)
        for _ in range(60):
            limits = random_limits(source)
            first = source.randint(0, 1000)
            second = source.randint(0, 1000 - first)
            self.assertLessEqual(limits(first + second), limits(first) + limits(second))

    def test_no_stretch_has_more_than_the_limits_let_by(self):
        source = seeded(14)
        for _ in range(80):
            limits = random_limits(source)
            row = keeping_row(source, limits)
            self.assertEqual(verdict(limits, row), ("kept",))
            for length in range(1, len(row) + 3):
                most = max([stretch(row, start, length) for start in range(len(row))])
                self.assertLessEqual(most, limits(length))
                if length <= 20:
                    self.assertEqual(tightest((row,), length), most)

    def test_merged_rows(self):
        source = seeded(15)
        checked = 0
        for _ in range(200):
            one, other = random_limits(source), random_limits(source)
            first, second = keeping_row(source, one, 15), keeping_row(source, other, 25)
            if sum(first) + sum(second) > 60:
                continue
            checked += 1
            both = merged(first, second)
            for length in range(1, 30):
                for start in range(len(both)):
                    self.assertLessEqual(stretch(both, start, length), one(length) + other(length))
        self.assertGreater(checked, 50)

    def test_merged_rows_that_reach_the_sum(self):
        one, other = Limits((1, 3), (4, 5)), Limits((2, 4))
        both = merged((3, 2), (4, 0, 4))
        self.assertEqual(both, (7, 2, 4))
        self.assertEqual(stretch(both, 0, 1), one(1) + other(1))
        self.assertEqual(stretch(both, 0, 3), one(3) + other(3))

    def test_a_sum_of_limits_is_kept_by_rows_that_keep_both(self):
        source = seeded(16)
        for _ in range(200):
            one, other = random_limits(source, 3), random_limits(source, 3)
            row = keeping_row(source, source.choice([one, other, one + other]), 12)
            self.assertEqual(keeps(one + other, row), keeps(one, row) and keeps(other, row))
            both = verdict(one, row) == verdict(other, row) == ("kept",)
            self.assertEqual(verdict(one + other, row) == ("kept",), both)


if __name__ == "__main__":
    unittest.main()
