"""Values and plain searches that several tests use."""

import random

from burstlimits.gates import Bounded, Gate, Prompt, PromptBounded
from burstlimits.limits import Limits


def gates(limits):
    """A gate of each class with these limits, that refuse nothing where none waits."""
    return [Gate(limits), Bounded(limits, 0), Bounded(limits, 60), Prompt(limits, 0), Prompt(limits, 100),
            PromptBounded(limits, 0, 0), PromptBounded(limits, 100, 60)]


def deep(depth):
    """A value nested as deep as told, of every kind that can hold another one."""
    value = Limits((1, 1))
    for level in range(depth):
        value = ([value], (value,), {"key": value}, (value, True), [value, None])[level % 5]
    return value


def any_values():
    """Values of every kind that may stand where any value is accepted."""
    return [
        None, True, False, 0, 1, 2, -1, 10 ** 12, "", "kept", "broken", "1", "at most 5 in 4\n",
        [], (), {}, [1], (1,), {1: 2}, (1, 2, 3), [1, 2], {"start": 0}, (None, None), ("kept",), ["kept"],
        (True, True), (1, True), (True, 1), ((1, 2),), [(1, 2)], ("1", "2"), (1, "2"), (1, None),
        Limits((1, 1)), Limits((1, 3), (4, 5)), (Limits((1, 1)),), [Limits((1, 1)), None], {"a": [(1, True)]},
        deep(20), tuple([0] * 7000), [True] * 7000, *gates(Limits((1, 3), (4, 5))), ("follows", Gate(Limits((1, 1)))),
        "follows", "breaks", ("follows",), ("breaks", ()), ["follows", (0,)], ("follows", [0]), ("breaks", [9]),
    ]


def wrong_integers(least, greatest):
    """Values that are no integer from least to greatest."""
    right = range(least, greatest + 1)
    others = [value for value in any_values() if not (isinstance(value, int) and not isinstance(value, bool))]
    return [*others, least - 1, greatest + 1, -(10 ** 12), 10 ** 12, True, False, str(right[0]), [right[0]], (right[0],)]


def wrong_limits():
    """Values that are no Limits."""
    return [value for value in any_values() if not isinstance(value, Limits)]


def wrong_rows():
    """Values that are no row."""
    return [
        None, True, 0, 3, "", "12", [], [1, 2], {}, {0: 1}, Limits((1, 1)), (-1,), (1, -1, 2), (True,), (False,),
        (0, True), (1, 2, False), (1, None), (1, "2"), ("",), ((1,),), ([1],), (1, (2,)), (Limits((1, 1)),),
        (61,), (60, 1), (30, 31), tuple([1] * 61), (61, -1), (10 ** 12,), (10 ** 12, -(10 ** 12)), deep(20), (deep(20),),
    ]


def random_limits(source, most_limits=6, greatest=20):
    """Different limits by this random source."""
    pairs = []
    for _ in range(source.randint(1, most_limits)):
        pair = (source.randint(1, greatest), source.randint(1, greatest))
        if pair not in pairs:
            pairs.append(pair)
    return Limits(*pairs)


def random_row(source, ticks=12, sum_of_all=60):
    """A row of at most so many ticks and requests by this random source."""
    row = []
    left = sum_of_all
    for _ in range(source.randint(0, ticks)):
        part = source.choice([0, 0, 1, 2, 3, source.randint(0, 12)])
        part = min(part, left)
        left -= part
        row.append(part)
    return tuple(row)


def keeping_row(source, limits, ticks=40):
    """A row that keeps the limits, as full as they allow in many of its ticks."""
    row = []
    for _ in range(ticks):
        room = min([most - sum(row[max(0, len(row) + 1 - length):]) for length, most in limits.pairs])
        room = min(room, 60 - sum(row))
        row.append(source.choice([0, room, room, source.randint(0, room)]))
    return tuple(row)


def seeded(seed):
    """The same random source in each run."""
    return random.Random(seed)


def stretch(row, start, length):
    """The requests in a stretch, tick by tick; it may begin ahead of the row and end behind it."""
    return sum([row[tick] for tick in range(start, start + length) if 0 <= tick < len(row)])


def least_sums(limits, longest):
    """The least sums that cover the lengths from 0 to the longest, shorter ones first, limit by limit."""
    sums = [0] + [None] * longest
    for covered in range(longest + 1):
        for length, most in limits.pairs:
            # What is covered with this limit besides is at least as long as any length up to here.
            for reached in range(covered + 1, min(covered + length, longest) + 1):
                if sums[reached] is None or sums[covered] + most < sums[reached]:
                    sums[reached] = sums[covered] + most
    return sums


def through_by_formula(limits, row, ticks):
    """How many are through in each of so many ticks, by what stands in the brackets of [30]."""
    sums = least_sums(limits, ticks)
    come = [sum(row[:tick]) for tick in range(ticks + 1)]
    together = [min([come[start] + sums[tick - start] for start in range(tick + 1)]) for tick in range(ticks + 1)]
    return tuple([together[tick + 1] - together[tick] for tick in range(ticks)])


def passed_by_formula(limits, row):
    """The row that [30] describes: as long as the row, or until all are through."""
    ticks = len(row)
    while sum(through_by_formula(limits, row, ticks)) < sum(row):
        ticks += max(1, ticks // 2)
    through = list(through_by_formula(limits, row, ticks))
    while len(through) > len(row) and through[-1] == 0:
        through.pop()
    return tuple(through)


def waits_one_by_one(limits, row):
    """How long each request waits: each in the first tick in which it and those ahead of it keep the limits."""
    ticks = []
    found = []
    for tick, amount in enumerate(row):
        for _ in range(amount):
            leaves = max([tick, *ticks[-1:]])
            while not keeps(limits, tuple([[*ticks, leaves].count(one) for one in range(leaves + 1)])):
                leaves += 1
            ticks.append(leaves)
            found.append(leaves - tick)
    return tuple(found)


def breaks(limits, row):
    """All (start, number, amount) where a stretch from a tick of the row on has more than a limit lets by."""
    found = []
    for start in range(len(row)):
        for number in range(len(limits)):
            length, most = limits[number]
            if stretch(row, start, length) > most:
                found.append((start, number, stretch(row, start, length)))
    return found


def keeps(limits, row):
    """Whether no stretch at all, also one that begins ahead of the row, has more than a limit lets by."""
    for length, most in limits.pairs:
        for start in range(-length, len(row) + length):
            if stretch(row, start, length) > most:
                return False
    return True
