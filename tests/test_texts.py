"""Promise [11]: the texts of limits."""

import unittest

from burstlimits.errors import NoText
from burstlimits.limits import Limits
from tests.samples import any_values, random_limits, seeded

SEVEN = [f"at most {number} in {number}\n" for number in range(1, 8)]


class Texts(unittest.TestCase):
    def test_text(self):
        self.assertEqual(Limits((4, 5)).text(), "at most 5 in 4\n")
        self.assertEqual(Limits((1, 3), (4, 5), (20, 20)).text(), "at most 3 in 1\nat most 5 in 4\nat most 20 in 20\n")

    def test_read(self):
        self.assertEqual(Limits.read("at most 3 in 1\nat most 5 in 4\n"), Limits((1, 3), (4, 5)))
        self.assertEqual(Limits.read(text="at most 5 in 4\nat most 3 in 1\n").pairs, ((4, 5), (1, 3)))
        self.assertEqual(len(Limits.read("".join(SEVEN[:6]))), 6)

    def test_every_limit_there_and_back(self):
        for length in range(1, 21):
            for most in range(1, 21):
                text = Limits((length, most)).text()
                self.assertEqual(text, "at most " + str(most) + " in " + str(length) + "\n")
                self.assertEqual(Limits.read(text).pairs, ((length, most),))

    def test_many_limits_there_and_back(self):
        source = seeded(1)
        for _ in range(300):
            limits = random_limits(source)
            again = Limits.read(limits.text())
            self.assertEqual(again, limits)
            self.assertEqual(again.text(), limits.text())


class TextsWithOneChange(unittest.TestCase):
    def refused(self, text):
        with self.assertRaises(NoText):
            Limits.read(text)

    def test_lines_left_out_or_moved_are_other_limits(self):
        lines = SEVEN[:6]
        self.assertEqual(Limits.read("".join(lines[:2] + lines[3:])).pairs, ((1, 1), (2, 2), (4, 4), (5, 5), (6, 6)))
        self.assertEqual(Limits.read("".join(lines[1:] + lines[:1])).pairs, ((2, 2), (3, 3), (4, 4), (5, 5), (6, 6), (1, 1)))

    def test_a_line_doubled(self):
        for at in range(3):
            self.refused("".join(SEVEN[:3] + [SEVEN[at]]))
            self.refused("".join([SEVEN[at]] + SEVEN[:3]))

    def test_more_than_six_lines(self):
        self.refused("".join(SEVEN))

    def test_empty_text_and_lines(self):
        for text in ("", "\n", "\n\n", "\nat most 5 in 4\n", "at most 5 in 4\n\n", "at most 3 in 1\n\nat most 5 in 4\n", " "):
            self.refused(text)

    def test_no_last_line_feed(self):
        self.refused("at most 5 in 4")
        self.refused("at most 3 in 1\nat most 5 in 4")
        self.refused("at most 3 in 1at most 5 in 4\n")

    def test_numbers_that_are_none(self):
        for word in ("0", "05", "21", "+5", "-5", "5.", "5.0", "", "five", "1_0", "0x5", "100", "5e0", "True", "None", "00"):
            self.refused(f"at most {word} in 4\n")
            self.refused(f"at most 5 in {word}\n")
            self.refused(f"at most 3 in 1\nat most 5 in {word}\n")

    def test_blanks(self):
        line = "at most 5 in 4"
        for at in range(len(line) + 1):
            self.refused(line[:at] + " " + line[at:] + "\n")
        self.refused("atmost 5 in 4\n")
        self.refused("at most 5\nin 4\n")
        self.refused("at most 5 in 4\n ")

    def test_one_character_changed_or_left_out(self):
        line = "at most 5 in 4"
        for at in range(len(line)):
            if line[at] in "54":
                continue
            for sign in "", "x", "A", "\n", "_", "5":
                self.refused(line[:at] + sign + line[at + 1:] + "\n")

    def test_words(self):
        for text in ("At most 5 in 4\n", "at least 5 in 4\n", "at most 5 of 4\n", "at most 5 in 4 ticks\n", "most 5 in 4\n",
                     "in most 5 at 4\n", "at most 5 in\n", "5 in 4\n", "at most 5 in 4;\n", "at at 5 in 4\n", "most at 5 in 4\n"):
            self.refused(text)

    def test_other_ends_of_lines(self):
        for end in ("\r\n", "\r", "\x0b", "\x0c", "\x1e", " \n", "\t\n"):
            self.refused("at most 5 in 4" + end)
            self.refused("at most 3 in 1" + end + "at most 5 in 4\n")

    def test_long_texts(self):
        self.refused("at most 5 in 4\n" * 130)
        self.refused("\n" * 2000)
        self.refused("9" * 2000 + "\n")

    def test_no_text(self):
        for thing in any_values():
            if thing != "at most 5 in 4\n":
                self.refused(thing)
        self.refused(["at most 5 in 4\n"])
        self.refused(("at most 5 in 4\n",))
        self.refused(b"at most 5 in 4\n")


if __name__ == "__main__":
    unittest.main()
