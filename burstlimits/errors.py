"""The exceptions of the package."""


class BurstError(ValueError):
    """What all exceptions of the package are derived from."""


class NoLimit(BurstError):
    """No limit, none at all, or the same one twice."""


class NoLimits(BurstError):
    """Something else where a Limits is required."""


class NoRow(BurstError):
    """Something else where a row is required."""


class NoRows(BurstError):
    """Something else where a tuple of rows is required."""


class NoNumber(BurstError):
    """A number under which nothing stands."""


class NoLength(BurstError):
    """A length that is not among those that are accepted."""


class NoLengths(BurstError):
    """Something else where a tuple of different lengths is required."""


class NoAmount(BurstError):
    """An amount that is not among those that are accepted."""


class NoText(BurstError):
    """Something that is not the text of any Limits."""


class NothingDone(BurstError):
    """There is nothing to take back."""


class TooMany(BurstError):
    """An amount above the greatest one that is accepted."""

    def __init__(self, amount, limit):
        super().__init__(f"{amount} are more than {limit}")
        self.amount = amount
        self.limit = limit


class Full(BurstError):
    """More requests would wait than there is room for."""

    def __init__(self, amount):
        super().__init__(f"{amount} requests would wait")
        self.amount = amount


class Late(BurstError):
    """A request would wait longer than there is patience for."""

    def __init__(self, ticks):
        super().__init__(f"a request would wait {ticks} ticks")
        self.ticks = ticks
