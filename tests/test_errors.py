"""The exceptions, those of later stages too."""

import unittest

from burstlimits import errors

WITH_A_MESSAGE = [
    "NoLimit", "NoLimits", "NoRow", "NoRows", "NoNumber", "NoLength", "NoLengths", "NoAmount", "NoText", "NothingDone",
]


class Errors(unittest.TestCase):
    def test_base(self):
        self.assertEqual(errors.BurstError.__bases__, (ValueError,))
        self.assertIsInstance(errors.BurstError(), ValueError)
        self.assertEqual(str(errors.BurstError("why")), "why")

    def test_all_are_derived_directly_and_defined_there(self):
        for name in [*WITH_A_MESSAGE, "TooMany", "Full", "Late"]:
            kind = vars(errors)[name]
            self.assertEqual(kind.__bases__, (errors.BurstError,), name)
            self.assertEqual(kind.__module__, "burstlimits.errors", name)

    def test_there_are_no_others(self):
        kinds = [name for name, value in vars(errors).items() if isinstance(value, type)]
        self.assertEqual(kinds, ["BurstError", *WITH_A_MESSAGE, "TooMany", "Full", "Late"])

    def test_with_a_message_or_none(self):
        for name in WITH_A_MESSAGE:
            kind = vars(errors)[name]
            self.assertEqual(kind().args, ())
            self.assertEqual(str(kind("why")), "why")
            with self.assertRaises(kind):
                raise kind
            with self.assertRaises(errors.BurstError):
                raise kind("why")

    def test_too_many(self):
        for error in (errors.TooMany(61, 60), errors.TooMany(limit=60, amount=61)):
            self.assertEqual((error.amount, error.limit), (61, 60))
            self.assertIsInstance(str(error), str)

    def test_full(self):
        for error in (errors.Full(7), errors.Full(amount=7)):
            self.assertEqual(error.amount, 7)
            self.assertIsInstance(str(error), str)

    def test_late(self):
        for error in (errors.Late(9), errors.Late(ticks=9)):
            self.assertEqual(error.ticks, 9)
            self.assertIsInstance(str(error), str)


if __name__ == "__main__":
    unittest.main()
