"""Requests that wait until the limits let them through."""

from burstlimits.limits import need_limits
from burstlimits.rows import need_row, requests_in


def passed(limits, row):
    """The row of those that are let through in each tick, until all are through."""
    need_limits(limits)
    need_row(row)
    return tuple(all_through(limits.pairs, (), 0, row))


def waits(limits, row):
    """How many ticks each request waits, in their order."""
    through = passed(limits, row)
    return tuple([left - came for came, left in zip(ticks_of(row), ticks_of(through))])


def waiting(limits, row):
    """Yield for each tick of passed how many requests wait at its end."""
    held = 0
    for tick, amount in enumerate(passed(limits, row)):
        held += requests_in(row, tick, 1) - amount
        yield held


def slowest(limits, row):
    """The first request that waits longest, and its ticks; None without requests."""
    ticks = waits(limits, row)
    if len(ticks) == 0:
        return None
    longest = max(ticks)
    return ticks.index(longest), longest


def next_through(pairs, gone, held):
    """How many of those held are let through in the tick behind the ones in which these have gone."""
    # A stretch that ends with this tick has one tick less in what has gone.
    room = min([most - sum(gone[max(0, len(gone) + 1 - length):]) for length, most in pairs])
    return min(held, room)


def all_through(pairs, ahead, held, row):
    """A list of what is let through in each tick of the row, and behind it until none waits.

    Ahead of the row so much was let through in each tick, and so many were held.
    """
    gone = list(ahead)
    while len(gone) - len(ahead) < len(row) or held > 0:
        held += requests_in(row, len(gone) - len(ahead), 1)
        gone.append(next_through(pairs, gone, held))
        held -= gone[-1]
    return gone[len(ahead):]


def ticks_of(row):
    """A list of the tick of each request, in their order."""
    return [tick for tick, amount in enumerate(row) for request in range(amount)]
