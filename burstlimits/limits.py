"""Limits: how many requests there may be in stretches of some lengths."""

from burstlimits.checks import is_between
from burstlimits.errors import NoLength, NoLimit, NoLimits, NoNumber, NoText, TooMany

GREATEST = 20
MOST_LIMITS = 6
LONGEST = 1000


class Limits:
    """One to six different limits, numbered from 0."""

    def __init__(self, *pairs):
        if not are_limits(pairs):
            raise NoLimit("limits are different tuples (length, most) of integers from 1 to 20, at least one")
        if len(pairs) > MOST_LIMITS:
            raise TooMany(len(pairs), MOST_LIMITS)
        self.held = pairs

    @property
    def pairs(self):
        """The tuple of the limits."""
        return self.held

    def __len__(self):
        return len(self.held)

    def __getitem__(self, at):
        if not is_between(at, 0, len(self.held) - 1):
            raise NoNumber("no limit has this number")
        return self.held[at]

    # Without it Python would iterate by __getitem__, until that raises NoNumber.
    def __iter__(self):
        raise TypeError("Limits are not iterated over, but their pairs are")

    def __contains__(self, x):
        # Python finds (True, 3) among the limits if (1, 3) is one of them.
        return Limits.is_limit(x) and x in self.held

    def __call__(self, length):
        """The least sum of the numbers of limits that cover the length."""
        if not is_between(length, 0, LONGEST):
            raise NoLength("a length is an integer from 0 to 1000")
        return least_sums(self.held, length)[length]

    def __add__(self, other):
        if not isinstance(other, Limits):
            raise NoLimits("only Limits are added to Limits")
        added = [pair for pair in other.held if pair not in self.held]
        pairs = (*self.held, *added)
        return Limits(*pairs)

    # Python comes here only with something on the left that is no Limits.
    def __radd__(self, other):
        raise NoLimits("Limits are added to Limits only")

    def __eq__(self, other):
        return isinstance(other, Limits) and self.held == other.held

    def __repr__(self):
        return f"Limits({len(self.held)} limits)"

    def text(self):
        """A text with a line for each limit."""
        return "".join([f"at most {most} in {length}\n" for length, most in self.held])

    @classmethod
    def read(cls, text):
        """The limits with exactly this text."""
        pairs = told_limits(text)
        if not are_limits(pairs) or len(pairs) > MOST_LIMITS:
            raise NoText("no limits have this text")
        return cls(*pairs)

    @classmethod
    def single(cls, length, most):
        """The limits with this one alone."""
        return cls((length, most))

    @staticmethod
    def is_limit(thing):
        """Tell whether any value is a limit."""
        if not isinstance(thing, tuple) or len(thing) != 2:
            return False
        return is_between(thing[0], 1, GREATEST) and is_between(thing[1], 1, GREATEST)


def are_limits(pairs):
    """Tell whether these values are limits, at least one, and none of them twice."""
    if not all([Limits.is_limit(pair) for pair in pairs]):
        return False
    return len(pairs) > 0 and len(set(pairs)) == len(pairs)


def need_limits(limits):
    """Raise NoLimits for anything but a Limits."""
    if not isinstance(limits, Limits):
        raise NoLimits("a Limits is required")


def least_sums(pairs, longest):
    """A list of the least sums that cover the lengths from 0 to the longest."""
    sums = [0]
    for covered in range(1, longest + 1):
        sums.append(min([most + sums[max(0, covered - length)] for length, most in pairs]))
    return sums


def told_limits(text):
    """A list of what the lines of a text tell; an empty one for what is no text of whole lines."""
    if not isinstance(text, str) or not text.endswith("\n"):
        return []
    return [told_limit(line) for line in text.split("\n")[:-1]]


def told_limit(line):
    """The limit that a line tells; something that is no limit if it tells none."""
    words = line.split(" ")
    if len(words) != 5 or words[0] != "at" or words[1] != "most" or words[3] != "in":
        return None
    # Looked up and not computed, as int takes "05" and "+5" for 5.
    numbers = {str(number): number for number in range(1, GREATEST + 1)}
    return numbers.get(words[4]), numbers.get(words[2])
