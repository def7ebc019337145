"""What limits let by together: reasons for their sums, and which limits follow from others."""

from burstlimits.checks import MOST_REQUESTS, is_between, is_row
from burstlimits.errors import NoLength, NoLimit
from burstlimits.limits import Limits, least_sums, need_limits
from burstlimits.rows import verdict

LONGEST_REASON = 200
MOST_TICKS = 60


def reason(limits, length):
    """The fewest numbers of limits that cover the length with the least sum, the first of several."""
    need_limits(limits)
    need_length(length, LONGEST_REASON)
    return best_cover(limits.pairs, length)


def shows_reason(limits, length, thing):
    """Tell whether any value is a tuple of numbers that cover the length with the least sum, in any order."""
    need_limits(limits)
    need_length(length, LONGEST_REASON)
    return covers(limits, length, thing) and sum_of(limits, thing) == limits(length)


def fullest(limits, ticks):
    """The row of so many ticks of which each beginning has as many requests as can be."""
    need_limits(limits)
    need_length(ticks, MOST_TICKS)
    sums = [min(amount, MOST_REQUESTS) for amount in least_sums(limits.pairs, ticks)]
    return tuple([sums[tick + 1] - sums[tick] for tick in range(ticks)])


def follows(limits, pair):
    """("follows", numbers) if every row that keeps the limits keeps the pair, otherwise ("breaks", row)."""
    need_limits(limits)
    need_limit(pair)
    if does_follow(limits.pairs, pair):
        return "follows", reason(limits, pair[0])
    return "breaks", fullest(limits, pair[0])


def shows_follows(limits, pair, thing):
    """Tell whether any value shows that the pair follows from the limits, or that it does not."""
    need_limits(limits)
    need_limit(pair)
    if not isinstance(thing, tuple) or len(thing) != 2:
        return False
    word, told = thing
    if word == "follows":
        return covers(limits, pair[0], told) and sum_of(limits, told) <= pair[1]
    return word == "breaks" and is_row(told) and keeps(limits, told) and not keeps(Limits(pair), told)


def short(limits):
    """What is left without the limits that follow from the others, from the last one on."""
    need_limits(limits)
    left = list(limits.pairs)
    for pair in limits.pairs[::-1]:
        others = [other for other in left if other != pair]
        if len(others) > 0 and does_follow(others, pair):
            left = others
    return Limits(*left)


def inside(one, other):
    """None if every row that keeps one keeps other, otherwise the first limit that it need not keep, and a row."""
    need_limits(one)
    need_limits(other)
    for number, pair in enumerate(other.pairs):
        if not does_follow(one.pairs, pair):
            return number, fullest(one, pair[0])
    return None


def need_length(length, longest):
    """Raise NoLength for anything but an integer from 0 to the longest."""
    if not is_between(length, 0, longest):
        raise NoLength(f"a length is an integer from 0 to {longest}")


def need_limit(pair):
    """Raise NoLimit for anything but a limit."""
    if not Limits.is_limit(pair):
        raise NoLimit("a limit is a tuple (length, most) of integers from 1 to 20")


def best_cover(pairs, length):
    """The ascending numbers that cover the length: of the least sum, then the fewest, then the first."""
    # The same number added to two choices does not change which of them is better. So the best one for a length is,
    # without any one of its numbers, the best one for the length that is then left to cover.
    best = [(0, 0, ())]
    for covered in range(1, length + 1):
        choices = []
        for number, (reach, most) in enumerate(pairs):
            amount, many, numbers = best[max(0, covered - reach)]
            choices.append((amount + most, many + 1, tuple(sorted((*numbers, number)))))
        best.append(min(choices))
    return best[length][2]


def covers(limits, length, thing):
    """Tell whether any value is a tuple of numbers of limits that cover the length."""
    if not isinstance(thing, tuple) or not all([is_between(part, 0, len(limits) - 1) for part in thing]):
        return False
    return sum([limits[number][0] for number in thing]) >= length


def sum_of(limits, numbers):
    """The sum of how many requests the limits with these numbers let by."""
    return sum([limits[number][1] for number in numbers])


def does_follow(pairs, pair):
    """Tell whether every row that keeps the limits keeps this one."""
    length, most = pair
    return least_sums(pairs, length)[length] <= most


def keeps(limits, row):
    """Tell whether the row keeps the limits."""
    return verdict(limits, row) == ("kept",)
