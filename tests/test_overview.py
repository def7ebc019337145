"""Promise [1]: the session of the overview, line by line; and what README.md shows."""

import doctest
import pathlib
import unittest

README = pathlib.Path(__file__).resolve().parent.parent / "README.md"
SESSION = """
>>> from burstlimits.limits import Limits
>>> from burstlimits.curves import follows, reason
>>> from burstlimits.passing import passed, waits
>>> limits = Limits((1, 3), (4, 5))
>>> limits(4), limits(5), limits(9)
(5, 8, 13)
>>> reason(limits, 5)
(0, 1)
>>> follows(limits, (2, 5))
('follows', (1,))
>>> follows(limits, (2, 4))
('breaks', (3, 2))
>>> passed(limits, (7, 0, 0, 0, 1))
(3, 2, 0, 0, 3)
>>> waits(limits, (7, 0, 0, 0, 1))
(0, 0, 0, 1, 1, 4, 4, 0)
"""


class Overview(unittest.TestCase):
    def shown(self, text, name):
        test = doctest.DocTestParser().get_doctest(text.replace("```", ""), {}, name, name, 0)
        told = []
        result = doctest.DocTestRunner(verbose=False).run(test, out=told.append)
        self.assertEqual(result.failed, 0, "".join(told))
        return result.attempted

    def test_session(self):
        self.assertEqual(self.shown(SESSION, "the overview"), 10)

    def test_readme(self):
        self.assertGreater(self.shown(README.read_text(encoding="ascii"), "README.md"), 30)


if __name__ == "__main__":
    unittest.main()
