"""Promises [10] and [12]: rows, and whether they keep limits."""

import unittest

from burstlimits.errors import NoLimits, NoRow
from burstlimits.limits import Limits
from burstlimits.rows import shows_verdict, verdict
from tests.samples import (any_values, breaks, keeping_row, keeps, random_limits, random_row, seeded, wrong_limits,
                           wrong_rows)

LIMITS = Limits((1, 3), (4, 5))


class Verdict(unittest.TestCase):
    def test_kept(self):
        for row in ((), (0,), (3,), (3, 2), (3, 2, 0, 0, 3), (0, 0, 0, 3), (1, 1, 1, 2, 1, 1, 1, 2), (0,) * 50, (2, 0, 0, 3)):
            self.assertEqual(verdict(LIMITS, row), ("kept",))

    def test_the_empty_row_keeps_all(self):
        self.assertEqual(verdict(Limits((20, 1), (1, 1)), ()), ("kept",))

    def test_broken(self):
        self.assertEqual(verdict(LIMITS, (4,)), ("broken", 0, 0, 4))
        self.assertEqual(verdict(LIMITS, (0, 0, 4)), ("broken", 2, 0, 4))
        self.assertEqual(verdict(LIMITS, (3, 3)), ("broken", 0, 1, 6))
        self.assertEqual(verdict(LIMITS, (0, 3, 2, 1)), ("broken", 0, 1, 6))
        self.assertEqual(verdict(LIMITS, (0, 0, 3, 2, 1)), ("broken", 1, 1, 6))
        self.assertEqual(verdict(LIMITS, (2, 0, 0, 4)), ("broken", 0, 1, 6))

    def test_the_first_tick_comes_before_the_first_limit(self):
        self.assertEqual(verdict(Limits((1, 3), (2, 5)), (3, 3, 4)), ("broken", 0, 1, 6))
        self.assertEqual(verdict(Limits((2, 5), (1, 3)), (3, 3, 4)), ("broken", 0, 0, 6))
        self.assertEqual(verdict(Limits((1, 3), (2, 5)), (0, 4, 4)), ("broken", 1, 0, 4))

    def test_the_first_of_several_limits(self):
        row = (9, 9)
        self.assertEqual(verdict(Limits((1, 3), (4, 5)), row), ("broken", 0, 0, 9))
        self.assertEqual(verdict(Limits((4, 5), (1, 3)), row), ("broken", 0, 0, 18))
        self.assertEqual(verdict(Limits((1, 20), (3, 20), (2, 17), (4, 5)), row), ("broken", 0, 2, 18))

    def test_just_as_many_as_let_by(self):
        self.assertEqual(verdict(Limits((2, 6)), (3, 3, 3)), ("kept",))
        self.assertEqual(verdict(Limits((2, 5)), (3, 3, 3)), ("broken", 0, 0, 6))

    def test_stretches_beyond_the_end(self):
        self.assertEqual(verdict(Limits((20, 4)), (0, 5)), ("broken", 0, 0, 5))
        self.assertEqual(verdict(Limits((20, 5)), (0, 5)), ("kept",))
        self.assertEqual(verdict(Limits((3, 4)), (0, 0, 0, 0, 5)), ("broken", 2, 0, 5))
        self.assertEqual(verdict(Limits((20, 1)), (1,) + (0,) * 19 + (1,)), ("kept",))
        self.assertEqual(verdict(Limits((20, 1)), (1,) + (0,) * 18 + (1,)), ("broken", 0, 0, 2))

    def test_kinds(self):
        kept, broken = verdict(LIMITS, ()), verdict(LIMITS, (4,))
        self.assertIs(type(kept), tuple)
        self.assertEqual([type(part) for part in broken], [str, int, int, int])

    def test_against_a_search(self):
        source = seeded(5)
        kept = 0
        for _ in range(1500):
            limits, row = random_limits(source), random_row(source)
            found = breaks(limits, row)
            self.assertEqual(found == [], keeps(limits, row))
            expected = ("broken", *min(found)) if found else ("kept",)
            self.assertEqual(verdict(limits, row), expected)
            kept += not found
        self.assertTrue(100 < kept < 1400)

    def test_rows_made_to_keep_the_limits(self):
        source = seeded(6)
        for _ in range(150):
            limits = random_limits(source)
            self.assertEqual(verdict(limits, keeping_row(source, limits)), ("kept",))

    def test_rows_with_just_sixty_and_long_rows(self):
        self.assertEqual(verdict(LIMITS, (60,)), ("broken", 0, 0, 60))
        self.assertEqual(verdict(Limits((1, 1)), (1,) * 60), ("kept",))
        self.assertEqual(verdict(LIMITS, (0,) * 7000 + (4,)), ("broken", 7000, 0, 4))


class Shown(unittest.TestCase):
    def test_every_right_judgment(self):
        source = seeded(7)
        for _ in range(200):
            limits, row = random_limits(source), random_row(source)
            found = breaks(limits, row)
            self.assertIs(shows_verdict(limits, row, ("kept",)), not found)
            self.assertIs(shows_verdict(limits, row, verdict(limits, row)), True)
            for judged in found:
                self.assertIs(shows_verdict(limits, row, ("broken", *judged)), True)

    def test_a_change_in_each_place(self):
        source = seeded(8)
        for _ in range(60):
            limits, row = random_limits(source, 3), random_row(source, 6)
            right = [("broken", *judged) for judged in breaks(limits, row)]
            for start in range(-1, len(row) + 2):
                for number in range(-2, len(limits) + 2):
                    for amount in range(-1, sum(row) + 2):
                        thing = ("broken", start, number, amount)
                        self.assertIs(shows_verdict(limits, row, thing), thing in right)

    def test_stretches_that_break_nothing(self):
        self.assertFalse(shows_verdict(LIMITS, (3, 3), ("broken", 0, 0, 3)))
        self.assertTrue(shows_verdict(LIMITS, (3, 3), ("broken", 0, 1, 6)))
        self.assertFalse(shows_verdict(LIMITS, (3, 3), ("broken", 1, 1, 3)))
        self.assertFalse(shows_verdict(LIMITS, (3, 3), ("broken", 0, 1, 5)))
        self.assertFalse(shows_verdict(LIMITS, (3, 3), ("broken", 0, 1, 7)))

    def test_ticks_that_are_not_of_the_row(self):
        limits = Limits((4, 5), (4, 6))
        self.assertFalse(shows_verdict(limits, (9, 9), ("broken", -1, 0, 18)))
        self.assertFalse(shows_verdict(limits, (9, 9), ("broken", -2, 0, 18)))
        self.assertFalse(shows_verdict(limits, (9, 9), ("broken", 2, 0, 0)))
        self.assertFalse(shows_verdict(limits, (9, 9), ("broken", 0, -1, 18)))
        self.assertFalse(shows_verdict(limits, (9, 9), ("broken", 0, 2, 18)))
        self.assertTrue(shows_verdict(limits, (9, 9), ("broken", 1, 1, 9)))

    def test_kept_that_is_wrong(self):
        for thing in (("kept",), ["kept"], ("kept", 0), "kept", ("broken",), (), ("Kept",), (("kept",),), ("kept", None)):
            self.assertFalse(shows_verdict(LIMITS, (4,), thing))
            self.assertIs(shows_verdict(LIMITS, (3,), thing), thing == ("kept",))

    def test_bools_and_other_kinds(self):
        limits = Limits((2, 1), (1, 1))
        self.assertTrue(shows_verdict(limits, (0, 2), ("broken", 1, 1, 2)))
        for thing in (("broken", True, 1, 2), ("broken", 1, True, 2), ("broken", 1, 1, True), ("broken", False, 0, 2),
                      ("broken", 0, False, 2), ["broken", 1, 1, 2], ("broken", 1, 1), ("broken", 1, 1, 2, 0),
                      ("broken", "1", 1, 2), ("broken", 1, None, 2), ("broken", 1, 1, (2,)), ("broken", (1, 1, 2)),
                      (1, 1, 2), ("kept", 1, 1, 2), ("", 1, 1, 2), (None, 1, 1, 2), (Limits((1, 1)), 1, 1, 2),
                      (("broken",), 1, 1, 2), (["broken", 1, 1, 2],), ("broken", [1], [1], [2]), ("Broken", 1, 1, 2),
                      ("broken", limits, limits, limits), ("broken", 1, 1, [2]), ("broken", 1, 1, None)):
            self.assertIs(shows_verdict(limits, (0, 2), thing), False)

    def test_a_bool_for_the_amount(self):
        self.assertFalse(shows_verdict(Limits((1, 1)), (2,), ("broken", 0, 0, True)))
        self.assertFalse(shows_verdict(Limits((1, 1)), (1,), ("broken", 0, 0, True)))

    def test_any_value(self):
        for row in ((), (1,), (4,), (3, 3)):
            for thing in any_values():
                kept = thing == ("kept",) and row in ((), (1,))
                self.assertIs(shows_verdict(LIMITS, row, thing), kept)

    def test_the_empty_row(self):
        self.assertTrue(shows_verdict(LIMITS, (), ("kept",)))
        self.assertFalse(shows_verdict(LIMITS, (), ("broken", 0, 0, 0)))
        self.assertFalse(shows_verdict(LIMITS, (), ("broken", 0, 0, 4)))


class Refused(unittest.TestCase):
    def test_wrong_limits(self):
        for wrong in [*wrong_limits(), ((1, 3),), (1, 3)]:
            for row in ((), (4,), [4], None, (True,)):
                with self.assertRaises(NoLimits):
                    verdict(wrong, row)
                with self.assertRaises(NoLimits):
                    shows_verdict(wrong, row, ("kept",))

    def test_wrong_rows(self):
        for wrong in wrong_rows():
            for thing in (("kept",), None, ("broken", 0, 0, 4)):
                with self.assertRaises(NoRow):
                    shows_verdict(LIMITS, wrong, thing)
            with self.assertRaises(NoRow):
                verdict(LIMITS, wrong)

    def test_rows_of_just_sixty_are_accepted(self):
        for row in ((60,), (30, 30), (1,) * 60, (0, 60, 0)):
            self.assertEqual(verdict(Limits((1, 20)), row)[0], "kept" if max(row) <= 20 else "broken")


if __name__ == "__main__":
    unittest.main()
