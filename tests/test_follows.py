"""Promise [22]: follows, shows_follows, short, inside."""

import itertools
import unittest

from burstlimits.curves import follows, fullest, inside, reason, short, shows_follows
from burstlimits.errors import NoLimit, NoLimits
from burstlimits.limits import Limits
from tests.samples import (any_values, deep, gates, keeps, least_sums, random_limits, random_row, seeded, wrong_limits,
                           wrong_rows)

LIMITS = Limits((1, 3), (4, 5))


def wrong_pairs():
    """Values that are no limit."""
    values = [value for value in any_values() if not Limits.is_limit(value)]
    return [*values, (0, 1), (1, 0), (21, 1), (1, 21), (True, 5), (2, True), (1, 2, 3), (2,), [2, 5], ((2, 5),), "25",
            ("2", "5"), (2, None), (-1, 5), (10 ** 12, 5)]


def rows_up_to(ticks, most):
    """All rows of at most so many ticks with at most so many in each."""
    return [row for many in range(ticks + 1) for row in itertools.product(range(most + 1), repeat=many)]


class Follows(unittest.TestCase):
    def test_every_pair_against_the_sums(self):
        source = seeded(31)
        words = {"follows": 0, "breaks": 0}
        for _ in range(40):
            limits = random_limits(source)
            sums = least_sums(limits, 20)
            for length in range(1, 21):
                for most in {1, 20, *[most for most in (sums[length] - 1, sums[length], sums[length] + 1) if 1 <= most <= 20]}:
                    told = follows(limits, (length, most))
                    words[told[0]] += 1
                    if sums[length] <= most:
                        self.assertEqual(told, ("follows", reason(limits, length)))
                    else:
                        self.assertEqual(told, ("breaks", fullest(limits, length)))
        self.assertGreater(min(words.values()), 200)

    def test_every_row_that_keeps_the_limits(self):
        source = seeded(32)
        rows = rows_up_to(4, 4)
        for _ in range(12):
            limits = random_limits(source, 3, 4)
            kept = [row for row in rows if keeps(limits, row)]
            for pair in itertools.product(range(1, 5), range(1, 5)):
                every = all([keeps(Limits(pair), row) for row in kept])
                self.assertEqual(follows(limits, pair)[0] == "follows", every, (limits.pairs, pair))

    def test_just_and_just_not(self):
        self.assertEqual(follows(LIMITS, (2, 6)), ("follows", (1,)))
        self.assertEqual(follows(LIMITS, (2, 5)), ("follows", (1,)))
        self.assertEqual(follows(LIMITS, (2, 4)), ("breaks", (3, 2)))
        self.assertEqual(follows(LIMITS, (5, 8)), ("follows", (0, 1)))
        self.assertEqual(follows(LIMITS, (5, 7)), ("breaks", (3, 2, 0, 0, 3)))
        self.assertEqual(follows(Limits((20, 20)), (20, 20)), ("follows", (0,)))
        self.assertEqual(follows(Limits((20, 20)), (20, 19)), ("breaks", (20,) + (0,) * 19))

    def test_the_limits_themselves(self):
        for number, pair in enumerate(LIMITS.pairs):
            self.assertEqual(follows(LIMITS, pair), ("follows", (number,)))

    def test_more_than_sixty_in_the_time(self):
        self.assertEqual(follows(Limits((1, 20)), (20, 20)), ("breaks", (20, 20, 20) + (0,) * 17))

    def test_kinds(self):
        for pair in ((2, 5), (2, 4)):
            word, told = follows(LIMITS, pair)
            self.assertEqual((type(follows(LIMITS, pair)), type(word), type(told)), (tuple, str, tuple))

    def test_refused(self):
        for wrong in wrong_pairs():
            with self.assertRaises(NoLimit):
                follows(LIMITS, wrong)
            for thing in (("follows", (1,)), ("breaks", (3, 2)), None):
                with self.assertRaises(NoLimit):
                    shows_follows(LIMITS, wrong, thing)
        for wrong in wrong_limits():
            for pair in ((2, 5), (0, 5), None, [2, 5]):
                with self.assertRaises(NoLimits):
                    follows(wrong, pair)
                with self.assertRaises(NoLimits):
                    shows_follows(wrong, pair, ("follows", (1,)))


class ShowsFollows(unittest.TestCase):
    def test_what_follows_returns(self):
        source = seeded(33)
        for _ in range(200):
            limits = random_limits(source)
            pair = (source.randint(1, 20), source.randint(1, 20))
            word, told = follows(limits, pair)
            self.assertIs(shows_follows(limits, pair, (word, told)), True)
            other = {"follows": "breaks", "breaks": "follows"}[word]
            self.assertIs(shows_follows(limits, pair, (other, told)), False)
            for thing in ([word, told], (word, list(told)), (word,), (word, told, told), told, word, (told, word),
                          (word.upper(), told), ((word, told),), (word, (told,)), {word: told}, (None, told), (word, None)):
                self.assertIs(shows_follows(limits, pair, thing), False)

    def test_every_choice_of_few_numbers(self):
        source = seeded(34)
        for _ in range(25):
            limits = random_limits(source, 3, 8)
            pair = (source.randint(1, 6), source.randint(1, 20))
            for many in range(5):
                for numbers in itertools.product(range(-1, len(limits) + 1), repeat=many):
                    right = all([0 <= number < len(limits) for number in numbers])
                    right = right and sum([limits[number][0] for number in numbers]) >= pair[0]
                    right = right and sum([limits[number][1] for number in numbers]) <= pair[1]
                    self.assertIs(shows_follows(limits, pair, ("follows", numbers)), right)

    def test_every_row_of_few_ticks(self):
        rows = rows_up_to(3, 4)
        for pair in ((1, 2), (2, 4), (2, 5), (3, 3), (1, 3), (20, 2)):
            for row in rows:
                right = keeps(LIMITS, row) and not keeps(Limits(pair), row)
                self.assertIs(shows_follows(LIMITS, pair, ("breaks", row)), right)

    def test_numbers(self):
        for numbers in ((1,), (0, 0), (0, 1), (1, 0)):
            self.assertTrue(shows_follows(LIMITS, (2, 8), ("follows", numbers)))
        # Too short, more than most, and both.
        for numbers in ((), (0,), (1, 1), (0, 0, 0), (0,) * 8000):
            self.assertFalse(shows_follows(LIMITS, (2, 8), ("follows", numbers)))
        # It need not be the least sum.
        self.assertTrue(shows_follows(LIMITS, (2, 6), ("follows", (0, 0))))
        self.assertFalse(shows_follows(LIMITS, (2, 5), ("follows", (0, 0))))
        for numbers in ((True,), (-1,), (2,), ("1",), (None,), [1], (1, False), (1.5,), (LIMITS,)):
            self.assertIs(shows_follows(LIMITS, (2, 5), ("follows", numbers)), False)

    def test_rows(self):
        # A row that keeps the limits and not the pair, anywhere in it.
        for row in ((3, 2), (2, 3), (3, 2, 0, 0), (0, 0, 2, 3), (1, 0, 0, 2, 3), (0,) * 7000 + (3, 2)):
            self.assertTrue(shows_follows(LIMITS, (2, 4), ("breaks", row)), row)
        # Rows that keep the pair, rows that do not keep the limits, and both.
        for row in ((), (0,), (3, 1), (3, 0, 2), (4, 2), (3, 3), (3, 2, 1), (4,), (60,)):
            self.assertFalse(shows_follows(LIMITS, (2, 4), ("breaks", row)), row)
        for row in wrong_rows():
            self.assertIs(shows_follows(LIMITS, (2, 4), ("breaks", row)), False)
        self.assertIs(shows_follows(LIMITS, (1, 2), ("breaks", (3, True))), False)
        self.assertIs(shows_follows(LIMITS, (1, 2), ("breaks", (3, 1))), True)

    def test_stretches_beyond_the_row(self):
        self.assertTrue(shows_follows(LIMITS, (20, 2), ("breaks", (3,))))
        self.assertFalse(shows_follows(LIMITS, (20, 3), ("breaks", (3,))))

    def test_any_value(self):
        for value in [*any_values(), deep(20), *gates(LIMITS)]:
            for pair in ((2, 5), (2, 4)):
                for thing in (value, [value], (value,), (value, value), (value, (1,)), (value, (3, 2))):
                    right = thing in (("follows", (1,)), ("breaks", (3, 2)))
                    self.assertIs(shows_follows(LIMITS, pair, thing), right and thing[0] == follows(LIMITS, pair)[0])
                for word in ("follows", "breaks"):
                    for told in (value, (value,), [value]):
                        right = pair == (2, 5) and word == "follows" and isinstance(told, tuple) and told == (1,)
                        self.assertIs(shows_follows(LIMITS, pair, (word, told)), right and told[0] is not True)


def short_by_itself(limits):
    """What is left, limit by limit, with the sums of the tests."""
    left = list(limits.pairs)
    for number in range(len(limits) - 1, -1, -1):
        length, most = limits[number]
        others = [pair for pair in left if pair != limits[number]]
        if others and least_sums(Limits(*others), length)[length] <= most:
            left = others
    return tuple(left)


class Short(unittest.TestCase):
    def test_none_follows(self):
        for limits in (LIMITS, Limits((1, 1)), Limits((1, 2), (3, 4), (7, 9)), Limits((20, 20), (1, 19))):
            self.assertEqual(short(limits), limits)

    def test_all_but_one_follow(self):
        self.assertEqual(short(Limits((1, 2), (2, 4), (3, 6), (4, 8))).pairs, ((1, 2),))
        self.assertEqual(short(Limits((4, 8), (3, 6), (2, 4), (1, 2))).pairs, ((1, 2),))
        self.assertEqual(short(Limits((5, 9), (5, 8), (5, 7), (4, 7), (1, 7), (5, 6))).pairs, ((5, 6),))

    def test_several_follow_from_each_other(self):
        # At most 1 in 1 tick follows from at most 1 in 2, and this from at most 1 in 3.
        self.assertEqual(short(Limits((1, 1), (2, 1), (3, 1))).pairs, ((3, 1),))
        self.assertEqual(short(Limits((3, 1), (2, 1), (1, 1))).pairs, ((3, 1),))
        # Each of the two follows from the other; the last one is left out.
        self.assertEqual(short(Limits((1, 1), (2, 2))).pairs, ((1, 1),))
        self.assertEqual(short(Limits((2, 2), (1, 1))).pairs, ((1, 1),))
        self.assertEqual(short(Limits((5, 3), (2, 3), (4, 3))).pairs, ((5, 3),))

    def test_from_the_last_one_on(self):
        # (5, 8) follows from the two others together only.
        self.assertEqual(short(Limits((1, 3), (4, 5), (5, 8))).pairs, ((1, 3), (4, 5)))
        self.assertEqual(short(Limits((5, 8), (4, 5), (1, 3))).pairs, ((4, 5), (1, 3)))
        self.assertEqual(short(Limits((4, 5), (2, 9), (1, 3), (5, 8), (9, 13))).pairs, ((4, 5), (1, 3)))

    def test_the_order_stays(self):
        self.assertEqual(short(Limits((4, 5), (3, 6), (1, 3))).pairs, ((4, 5), (1, 3)))

    def test_against_the_sums(self):
        source = seeded(35)
        many = {number: 0 for number in range(1, 7)}
        for _ in range(400):
            limits = random_limits(source, 6, source.choice([4, 10, 20]))
            left = short(limits)
            many[len(left)] += 1
            self.assertIsInstance(left, Limits)
            self.assertEqual(left.pairs, short_by_itself(limits))
            self.assertEqual([left(length) for length in range(61)], [limits(length) for length in range(61)])
            self.assertEqual(short(left), left)
        self.assertTrue(many[1] and many[2] and many[3])

    def test_refused(self):
        for wrong in wrong_limits():
            with self.assertRaises(NoLimits):
                short(wrong)


class Inside(unittest.TestCase):
    def test_none(self):
        for one, other in ((LIMITS, LIMITS), (LIMITS, Limits((2, 5))), (LIMITS, Limits((5, 8), (9, 13))),
                           (Limits((3, 1)), Limits((1, 1), (2, 1))), (LIMITS, short(LIMITS))):
            self.assertIsNone(inside(one, other))

    def test_the_first_that_does_not_follow(self):
        self.assertEqual(inside(LIMITS, Limits((2, 4))), (0, (3, 2)))
        self.assertEqual(inside(LIMITS, Limits((2, 5), (5, 7), (2, 4))), (1, (3, 2, 0, 0, 3)))
        self.assertEqual(inside(LIMITS, Limits((2, 5), (1, 3), (1, 2))), (2, (3,)))
        self.assertEqual(inside(Limits((1, 20)), Limits((20, 20))), (0, (20, 20, 20) + (0,) * 17))
        self.assertIs(type(inside(LIMITS, Limits((2, 4)))), tuple)

    def test_against_follows_and_rows(self):
        source = seeded(36)
        within = 0
        for _ in range(300):
            one, other = random_limits(source, 4, 12), random_limits(source, 3, 20)
            told = inside(one, other)
            words = [follows(one, pair) for pair in other.pairs]
            if told is None:
                within += 1
                self.assertTrue(all([word == "follows" for word, _ in words]))
                for _ in range(5):
                    row = random_row(source)
                    self.assertTrue(keeps(other, row) or not keeps(one, row))
            else:
                number, row = told
                self.assertEqual([word for word, _ in words[:number]], ["follows"] * number)
                self.assertEqual(words[number], ("breaks", row))
                self.assertTrue(keeps(one, row))
                self.assertFalse(keeps(Limits(other[number]), row))
        self.assertTrue(20 < within < 280)

    def test_refused(self):
        for wrong in wrong_limits():
            for call in (lambda: inside(wrong, LIMITS), lambda: inside(LIMITS, wrong), lambda: inside(wrong, wrong)):
                with self.assertRaises(NoLimits):
                    call()


if __name__ == "__main__":
    unittest.main()
