"""Promise [13]: tightest, learnt and merged."""

import unittest

from burstlimits.errors import NoLength, NoLengths, NoRow, NoRows, TooMany
from burstlimits.limits import Limits
from burstlimits.rows import learnt, merged, tightest, verdict
from tests.samples import any_values, keeps, random_row, seeded, stretch, wrong_integers, wrong_rows

NO_LENGTHS = [
    None, True, 0, 3, "", "12", [], (), [1, 2], {}, {1: 2}, (0,), (21,), (-1,), (True,), (1, True), (1, 2, 0), (1, 21),
    (1, 1), (2, 3, 2), (1, 2, 3, 4, 5, 6, 7), (1, None), (1, "2"), ((1,),), ([1],), (Limits((1, 1)),), Limits((1, 1)),
    (1, 2, 3, 4, 5, 6, 1), (10 ** 12,), (1,) * 7000,
]


def wrong_tuples_of_rows():
    """Values that are no tuple of rows."""
    around = [(row,) for row in wrong_rows()] + [((1, 2), row) for row in wrong_rows()] + [(row, ()) for row in wrong_rows()]
    return [*around, None, True, 0, "", "1", [], [(1, 2)], {}, {(1, 2): 0}, (1, 2), (0,), Limits((1, 1)), {0: (1,)}]


class Tightest(unittest.TestCase):
    def test_without_rows(self):
        for length in range(1, 21):
            self.assertEqual(tightest((), length), 0)

    def test_rows_without_requests(self):
        for rows in (((),), ((), ()), ((0, 0, 0),), ((), (0,))):
            for length in (1, 2, 20):
                self.assertEqual(tightest(rows, length), 0)

    def test_one_row(self):
        row = (3, 2, 0, 0, 4)
        self.assertEqual([tightest((row,), length) for length in range(1, 8)], [4, 5, 5, 6, 9, 9, 9])

    def test_the_greatest_of_several_rows(self):
        rows = ((1, 1, 1), (), (0, 2), (2, 0, 0, 2))
        self.assertEqual([tightest(rows, length) for length in (1, 2, 3, 4, 20)], [2, 2, 3, 4, 4])
        self.assertEqual(tightest(rows[::-1], 3), 3)

    def test_the_stretch_stands_in_one_row(self):
        self.assertEqual(tightest(((0, 5), (5, 0)), 2), 5)

    def test_lengths_greater_than_a_row(self):
        self.assertEqual(tightest(((7,),), 20), 7)
        self.assertEqual(tightest(((1, 2, 3),), 4), 6)
        self.assertEqual(tightest(((60,), (1, 1)), 20), 60)

    def test_against_a_search(self):
        source = seeded(9)
        for _ in range(300):
            rows = tuple([random_row(source) for _ in range(source.randint(0, 3))])
            length = source.randint(1, 20)
            amounts = [stretch(row, start, length) for row in rows for start in range(-20, len(row))]
            self.assertEqual(tightest(rows, length), max(amounts, default=0))
        self.assertEqual(tightest(length=2, rows=((1, 2, 3),)), 5)

    def test_wrong_rows(self):
        for wrong in wrong_tuples_of_rows():
            for length in (1, 0, None):
                with self.assertRaises(NoRows):
                    tightest(wrong, length)

    def test_wrong_lengths(self):
        for wrong in [*wrong_integers(1, 20), "3"]:
            for rows in ((), ((1, 2),)):
                with self.assertRaises(NoLength):
                    tightest(rows, wrong)


class Learnt(unittest.TestCase):
    def test_lengths_in_any_order(self):
        rows = ((3, 2, 0, 0, 4),)
        self.assertEqual(learnt(rows, (1, 4)).pairs, ((1, 4), (4, 6)))
        self.assertEqual(learnt(rows, (5, 1, 2)).pairs, ((5, 9), (1, 4), (2, 5)))
        self.assertIs(type(learnt(rows, (1,))), Limits)

    def test_six_lengths(self):
        self.assertEqual(learnt(((1, 1, 1),), (6, 5, 4, 3, 2, 1)).pairs, ((6, 3), (5, 3), (4, 3), (3, 3), (2, 2), (1, 1)))
        self.assertEqual(learnt(rows=((20,),), lengths=(1, 20)).pairs, ((1, 20), (20, 20)))

    def test_numbers_that_would_be_zero(self):
        for rows in ((), ((),), ((0, 0),), ((), (0,))):
            self.assertEqual(learnt(rows, (2, 1, 20)).pairs, ((2, 1), (1, 1), (20, 1)))

    def test_least_numbers_that_all_rows_keep(self):
        source = seeded(10)
        for _ in range(200):
            rows = tuple([random_row(source, 8, 20) for _ in range(source.randint(0, 3))])
            lengths = tuple(source.sample(range(1, 21), source.randint(1, 6)))
            limits = learnt(rows, lengths)
            self.assertEqual(tuple([length for length, most in limits.pairs]), lengths)
            for row in rows:
                self.assertEqual(verdict(limits, row), ("kept",))
            for length, most in limits.pairs:
                if most > 1:
                    self.assertFalse(all([keeps(Limits((length, most - 1)), row) for row in rows]))

    def too_many(self, rows, lengths):
        with self.assertRaises(TooMany) as caught:
            learnt(rows, lengths)
        return caught.exception.amount, caught.exception.limit

    def test_a_number_above_twenty(self):
        self.assertEqual(self.too_many(((21,),), (1,)), (21, 20))
        self.assertEqual(self.too_many(((60,),), (20, 1)), (60, 20))
        self.assertEqual(self.too_many(((), (10, 11)), (1, 2)), (21, 20))

    def test_the_first_number_above_twenty_in_the_order_of_lengths(self):
        rows = ((15, 0, 15, 15, 15),)
        self.assertEqual(self.too_many(rows, (1, 2, 3, 4, 5)), (30, 20))
        self.assertEqual(self.too_many(rows, (1, 5, 3, 2)), (60, 20))
        self.assertEqual(self.too_many(rows, (3, 5, 2)), (45, 20))

    def test_wrong_rows(self):
        for wrong in wrong_tuples_of_rows():
            for lengths in ((1,), (), None):
                with self.assertRaises(NoRows):
                    learnt(wrong, lengths)

    def test_wrong_lengths(self):
        for wrong in [*NO_LENGTHS, *[value for value in any_values() if value not in ((1,), (1, 2, 3))]]:
            for rows in ((), ((1, 2),), ((60,),)):
                with self.assertRaises(NoLengths):
                    learnt(rows, wrong)


class Merged(unittest.TestCase):
    def test_different_lengths(self):
        self.assertEqual(merged((1, 2, 3), (4,)), (5, 2, 3))
        self.assertEqual(merged((4,), (1, 2, 3)), (5, 2, 3))
        self.assertEqual(merged((1, 0, 2), (3, 4, 5)), (4, 4, 7))
        self.assertEqual(merged(other=(0, 0), one=(1,)), (1, 0))
        self.assertIs(type(merged((1,), (2,))), tuple)

    def test_empty_rows(self):
        self.assertEqual(merged((), ()), ())
        self.assertEqual(merged((), (1, 0)), (1, 0))
        self.assertEqual(merged((1, 0), ()), (1, 0))
        self.assertEqual(merged((), (0, 0, 0)), (0, 0, 0))

    def test_just_sixty_together(self):
        self.assertEqual(merged((30,), (30,)), (60,))
        self.assertEqual(merged((60,), (0, 0)), (60, 0))
        self.assertEqual(merged((0, 59), (1,)), (1, 59))

    def test_more_than_sixty_together(self):
        for one, other, amount in (((30,), (31,), 61), ((60,), (0, 1), 61), ((60,), (60,), 120), ((59, 1), (0, 0, 1), 61)):
            with self.assertRaises(TooMany) as caught:
                merged(one, other)
            self.assertEqual((caught.exception.amount, caught.exception.limit), (amount, 60))

    def test_wrong_values_in_each_place(self):
        for wrong in wrong_rows():
            for right in ((), (1, 2), (60,)):
                with self.assertRaises(NoRow):
                    merged(wrong, right)
                with self.assertRaises(NoRow):
                    merged(right, wrong)
            with self.assertRaises(NoRow):
                merged(wrong, wrong)

    def test_each_tick_has_the_requests_of_both(self):
        source = seeded(11)
        for _ in range(200):
            one, other = random_row(source, 9, 30), random_row(source, 9, 30)
            both = merged(one, other)
            self.assertEqual(len(both), max(len(one), len(other)))
            for tick in range(len(both)):
                self.assertEqual(both[tick], stretch(one, tick, 1) + stretch(other, tick, 1))


if __name__ == "__main__":
    unittest.main()
