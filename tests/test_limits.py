"""Promises [10] and [11]: what limits are, without their texts and sums."""

import unittest

from burstlimits.errors import NoLength, NoLimit, NoLimits, NoNumber, TooMany
from burstlimits.limits import Limits
from tests.samples import any_values, deep, wrong_integers, wrong_limits

SIX = ((1, 3), (4, 5), (5, 6), (7, 8), (9, 10), (20, 20))
NO_LIMITS = [
    (0, 1), (1, 0), (21, 1), (1, 21), (-1, 1), (1, -1), (True, 1), (1, True), (True, True), (False, 1), (1, False),
    (10 ** 12, 1), (1, 10 ** 12), (), (1,), (1, 2, 3), [1, 2], {1: 2}, {}, None, True, 1, "", "12", ("1", "2"),
    (1, "2"), ("1", 2), (None, 1), (1, None), ((1, 2), 3), (1, (2,)), ([1], [2]), [(1, 2)], ((1, 2),), ((1, 2), (3, 4)),
]


def refusal(case, call, *args):
    """The fields of the TooMany that the call raises."""
    with case.assertRaises(TooMany) as caught:
        call(*args)
    return caught.exception.amount, caught.exception.limit


class Making(unittest.TestCase):
    def test_one_and_six(self):
        self.assertEqual(Limits((1, 3)).pairs, ((1, 3),))
        self.assertEqual(Limits(*SIX).pairs, SIX)

    def test_pairs_is_a_tuple_of_tuples_in_their_order(self):
        pairs = Limits((4, 5), (1, 3), (4, 4)).pairs
        self.assertIs(type(pairs), tuple)
        self.assertEqual(pairs, ((4, 5), (1, 3), (4, 4)))
        self.assertTrue(all([type(pair) is tuple for pair in pairs]))

    def test_the_least_and_greatest_values(self):
        for pair in ((1, 1), (1, 20), (20, 1), (20, 20)):
            self.assertEqual(Limits(pair).pairs, (pair,))

    def test_none_at_all(self):
        with self.assertRaises(NoLimit):
            Limits()

    def test_no_limit_in_any_place(self):
        for wrong in [*NO_LIMITS, Limits((1, 1)), deep(20)]:
            for pairs in ((wrong,), (wrong, (1, 2)), ((1, 2), wrong), ((1, 2), (3, 4), wrong)):
                with self.assertRaises(NoLimit):
                    Limits(*pairs)

    def test_a_limit_twice(self):
        for pairs in (((1, 2), (1, 2)), ((1, 2), (3, 4), (1, 2)), ((3, 4), (1, 2), (1, 2))):
            with self.assertRaises(NoLimit):
                Limits(*pairs)

    def test_the_same_length_or_number_twice_is_no_fault(self):
        self.assertEqual(len(Limits((4, 5), (4, 6), (3, 5), (5, 4))), 4)

    def test_more_than_six(self):
        self.assertEqual(refusal(self, Limits, *SIX, (2, 2)), (7, 6))
        self.assertEqual(refusal(self, Limits, *[(1, most) for most in range(1, 21)]), (20, 6))
        every = [(length, most) for length in range(1, 21) for most in range(1, 21)]
        self.assertEqual(refusal(self, Limits, *every), (400, 6))

    def test_no_limit_comes_before_too_many(self):
        for last in ((0, 1), (1, 3), (True, 3), None):
            with self.assertRaises(NoLimit):
                Limits(*SIX, (2, 2), last)
            with self.assertRaises(NoLimit):
                Limits(*SIX, last)


class Reading(unittest.TestCase):
    def test_len(self):
        for many in range(1, 7):
            self.assertEqual(len(Limits(*SIX[:many])), many)

    def test_each_number(self):
        limits = Limits(*SIX)
        self.assertEqual([limits[number] for number in range(6)], list(SIX))
        self.assertIs(type(limits[0]), tuple)

    def test_no_number(self):
        for many in (1, 2, 6):
            limits = Limits(*SIX[:many])
            for wrong in [*wrong_integers(0, many - 1), "0", slice(0, 1)]:
                with self.assertRaises(NoNumber):
                    limits[wrong]

    def test_in(self):
        limits = Limits((1, 3), (4, 5))
        for pair in ((1, 3), (4, 5)):
            self.assertIs(pair in limits, True)
        for pair in ((3, 1), (5, 4), (1, 5), (4, 3), (1, 1), (1, 3, 4), [1, 3], (True, 3), ((1, 3),), [(1, 3)], "13"):
            self.assertIs(pair in limits, False)
        for thing in [*NO_LIMITS, *any_values()]:
            self.assertIs(thing in limits, False)

    def test_in_with_bools_equal_to_the_limit(self):
        limits = Limits((1, 1), (1, 2), (2, 1))
        for thing in ((True, True), (True, 1), (1, True), (True, 2), (2, True)):
            self.assertFalse(thing in limits)
        for thing in ((1, 1), (1, 2), (2, 1)):
            self.assertTrue(thing in limits)

    def test_they_are_not_iterated_over(self):
        with self.assertRaises(TypeError):
            list(Limits((1, 3), (4, 5)))

    def test_repr(self):
        self.assertEqual(repr(Limits((1, 3))), "Limits(1 limits)")
        self.assertEqual(repr(Limits((1, 3), (4, 5))), "Limits(2 limits)")
        self.assertEqual(repr(Limits(*SIX)), "Limits(6 limits)")

    def test_lengths_that_are_none(self):
        limits = Limits((1, 3), (4, 5))
        for wrong in [*wrong_integers(0, 1000), "5", 1001, -1]:
            with self.assertRaises(NoLength):
                limits(wrong)

    def test_lengths_at_the_edges(self):
        limits = Limits((1, 3), (4, 5))
        self.assertEqual((limits(0), limits(1), limits(1000)), (0, 3, 1250))
        self.assertEqual(limits(length=9), 13)


class Adding(unittest.TestCase):
    def test_without_limits_in_common(self):
        both = Limits((1, 3)) + Limits((4, 5), (2, 4))
        self.assertIs(type(both), Limits)
        self.assertEqual(both.pairs, ((1, 3), (4, 5), (2, 4)))

    def test_with_limits_in_common(self):
        one = Limits((4, 5), (1, 3), (9, 9))
        other = Limits((9, 9), (2, 4), (4, 5), (1, 4))
        self.assertEqual((one + other).pairs, ((4, 5), (1, 3), (9, 9), (2, 4), (1, 4)))
        self.assertEqual((other + one).pairs, ((9, 9), (2, 4), (4, 5), (1, 4), (1, 3)))
        self.assertEqual((one + one).pairs, one.pairs)

    def test_just_six_together(self):
        self.assertEqual((Limits(*SIX[:3]) + Limits(*SIX[3:])).pairs, SIX)
        self.assertEqual((Limits(*SIX) + Limits(*SIX[::-1])).pairs, SIX)
        self.assertEqual((Limits(*SIX[:5]) + Limits(*SIX[1:])).pairs, SIX)

    def test_more_than_six_together(self):
        six = Limits(*SIX)
        self.assertEqual(refusal(self, lambda: six + Limits((2, 2))), (7, 6))
        self.assertEqual(refusal(self, lambda: Limits((2, 2), (1, 3)) + six), (7, 6))
        self.assertEqual(refusal(self, lambda: six + Limits(*[(10, most) for most in range(1, 7)])), (12, 6))

    def test_with_something_that_is_no_limits(self):
        limits = Limits(*SIX)
        for wrong in [*wrong_limits(), (2, 2), ((2, 2),)]:
            with self.assertRaises(NoLimits):
                limits + wrong
            with self.assertRaises(NoLimits):
                wrong + limits

    def test_changes_neither(self):
        one, other = Limits((1, 3)), Limits((4, 5))
        same = one
        one += other
        self.assertEqual(one.pairs, ((1, 3), (4, 5)))
        self.assertEqual((same.pairs, other.pairs), (((1, 3),), ((4, 5),)))


class Comparing(unittest.TestCase):
    def test_equal(self):
        self.assertTrue(Limits((1, 3), (4, 5)) == Limits((1, 3), (4, 5)))
        self.assertFalse(Limits((1, 3), (4, 5)) != Limits((1, 3), (4, 5)))
        self.assertIs(Limits(*SIX) == Limits(*SIX), True)

    def test_another_order_or_other_limits(self):
        limits = Limits((1, 3), (4, 5))
        others = [Limits((4, 5), (1, 3)), Limits((1, 3)), Limits((4, 5)), Limits((1, 3), (4, 5), (5, 8)), Limits((3, 1)),
                  Limits((1, 3), (4, 6))]
        for other in others:
            self.assertIs(limits == other, False)
            self.assertIs(other == limits, False)
            self.assertIs(limits != other, True)

    def test_equal_to_nothing_else_both_ways_round(self):
        limits = Limits((1, 1))
        for thing in [*wrong_limits(), limits.pairs, limits.pairs[0], [(1, 1)], limits.text(), repr(limits), (limits,), [limits]]:
            self.assertIs(limits == thing, False)
            self.assertIs(thing == limits, False)
            self.assertIs(limits != thing, True)


class Alone(unittest.TestCase):
    def test_single(self):
        self.assertEqual(Limits.single(4, 5), Limits((4, 5)))
        self.assertEqual(Limits.single(most=5, length=4).pairs, ((4, 5),))
        self.assertEqual(Limits((1, 1)).single(20, 20).pairs, ((20, 20),))

    def test_single_of_no_limit(self):
        for wrong in wrong_integers(1, 20):
            with self.assertRaises(NoLimit):
                Limits.single(wrong, 5)
            with self.assertRaises(NoLimit):
                Limits.single(5, wrong)

    def test_is_limit(self):
        for length in range(-2, 24):
            for most in range(-2, 24):
                self.assertIs(Limits.is_limit((length, most)), 1 <= length <= 20 and 1 <= most <= 20)

    def test_is_limit_of_any_value(self):
        for thing in [*NO_LIMITS, *any_values()]:
            self.assertIs(Limits.is_limit(thing), False)
        self.assertIs(Limits.is_limit(thing=(1, 2)), True)
        self.assertIs(Limits((1, 1)).is_limit((2, 2)), True)


if __name__ == "__main__":
    unittest.main()
