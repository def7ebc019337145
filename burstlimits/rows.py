"""Rows: how many requests there are in each tick, and which limits they keep."""

from burstlimits.checks import MOST_REQUESTS, is_between, is_integer, is_row
from burstlimits.errors import NoLength, NoLengths, NoRow, NoRows, TooMany
from burstlimits.limits import GREATEST, MOST_LIMITS, Limits, need_limits


def verdict(limits, row):
    """("kept",), or ("broken", start, number, amount) for the first tick and limit that are broken."""
    need_limits(limits)
    need_row(row)
    for start in range(len(row)):
        for number, (length, most) in enumerate(limits.pairs):
            amount = requests_in(row, start, length)
            if amount > most:
                return "broken", start, number, amount
    return ("kept",)


def shows_verdict(limits, row, thing):
    """Tell whether any value is a right verdict, with any tick and limit that are broken."""
    need_limits(limits)
    need_row(row)
    if thing == ("kept",):
        return verdict(limits, row) == ("kept",)
    if not isinstance(thing, tuple) or len(thing) != 4 or thing[0] != "broken":
        return False
    return is_break(limits, row, thing[1:])


def is_break(limits, row, told):
    """Tell whether the three values are a tick, a limit broken there, and the amount."""
    start, number, amount = told
    if not is_between(start, 0, len(row) - 1) or not is_between(number, 0, len(limits) - 1):
        return False
    length, most = limits[number]
    return is_integer(amount) and amount == requests_in(row, start, length) and amount > most


def tightest(rows, length):
    """The greatest number of requests of a row in any stretch of this length."""
    need_rows(rows)
    if not is_between(length, 1, GREATEST):
        raise NoLength("a length is an integer from 1 to 20")
    return max([fullest_stretch(row, length) for row in rows], default=0)


def learnt(rows, lengths):
    """The Limits with these lengths and the least numbers such that all rows keep them."""
    need_rows(rows)
    if not are_lengths(lengths):
        raise NoLengths("lengths are one to six different integers from 1 to 20, in a tuple")
    # A limit lets by at least 1, also where no request has come.
    pairs = [(length, max(1, tightest(rows, length))) for length in lengths]
    for pair in pairs:
        if pair[1] > GREATEST:
            raise TooMany(pair[1], GREATEST)
    return Limits(*pairs)


def merged(one, other):
    """The row with the requests of both."""
    need_row(one)
    need_row(other)
    amount = sum(one) + sum(other)
    if amount > MOST_REQUESTS:
        raise TooMany(amount, MOST_REQUESTS)
    ticks = max(len(one), len(other))
    return tuple([requests_in(one, tick, 1) + requests_in(other, tick, 1) for tick in range(ticks)])


def need_row(row):
    """Raise NoRow for anything but a row."""
    if not is_row(row):
        raise NoRow("a row is a tuple of integers from 0 on that add up to at most 60")


def need_rows(rows):
    """Raise NoRows for anything but a tuple of rows."""
    if not isinstance(rows, tuple) or not all([is_row(row) for row in rows]):
        raise NoRows("a tuple of rows is required")


def are_lengths(thing):
    """Tell whether any value is a tuple of one to six different lengths from 1 to 20."""
    if not isinstance(thing, tuple) or not 1 <= len(thing) <= MOST_LIMITS:
        return False
    return all([is_between(part, 1, GREATEST) for part in thing]) and len(set(thing)) == len(thing)


def requests_in(row, start, length):
    """How many requests there are in the stretch of this length from this tick on."""
    # A slice ends with the row, and behind the row there are no requests.
    return sum(row[start:start + length])


def fullest_stretch(row, length):
    """The greatest number of requests in any stretch of this length."""
    return max([requests_in(row, start, length) for start in range(len(row))], default=0)
