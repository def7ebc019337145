"""Gates: requests come tick by tick, and those that the limits do not let through yet wait."""

from burstlimits.checks import MOST_REQUESTS, is_between
from burstlimits.errors import Full, Late, NoAmount, NoNumber, NothingDone, TooMany
from burstlimits.limits import need_limits
from burstlimits.passing import all_through, next_through
from burstlimits.rows import need_row

MOST_PATIENCE = 100


class Trying:
    """Puts a gate back to where a with statement began, if an exception leaves its block."""

    def __init__(self, gate):
        self.gate = gate

    def __enter__(self):
        # What a gate holds is replaced and never modified, so no copies are needed.
        self.came = self.gate.came
        self.gone = self.gate.gone
        self.past = self.gate.past
        self.waiting = self.gate.waiting
        return self.gate

    def __exit__(self, kind, value, trace):
        if kind is not None:
            self.gate.came = self.came
            self.gate.gone = self.gone
            self.gate.past = self.past
            self.gate.waiting = self.waiting


class Gate:
    """Lets requests through in their order, each as early as the limits allow."""

    NAME = "Gate"

    def __init__(self, limits):
        need_limits(limits)
        self.bounds = limits
        self.settle((), (), ())

    @property
    def limits(self):
        """The limits of the gate."""
        return self.bounds

    @property
    def come(self):
        """The row of what has come so far."""
        return self.came

    @come.setter
    def come(self, value):
        self.assign_come(value)

    @property
    def through(self):
        """The row of what has been let through so far."""
        return self.gone

    @property
    def changes(self):
        """How many ticks and assignments have not been taken back."""
        return len(self.past)

    def tick(self, amount):
        """Let a tick go by in which so many come; how many are let through in it."""
        return self.run(amount)[0]

    def __call__(self, amount):
        """Let a tick go by in which so many come; how many are let through in it."""
        return self.tick(amount)

    def run(self, *amounts):
        """Let several ticks go by, all or none; what is let through in each."""
        came, gone = self.behind(self.came, self.gone, amounts)
        ticks = [None] * len(amounts)
        self.settle(came, gone, (*self.past, *ticks))
        return gone[len(gone) - len(amounts):]

    def rest(self):
        """Let ticks without requests go by until none waits; how many ticks."""
        amounts = [0] * len(all_through(self.bounds.pairs, self.gone, self.waiting, ()))
        self.run(*amounts)
        return len(amounts)

    def assign_come(self, row):
        """Be as if this row had come from its first tick on."""
        need_row(row)
        came, gone = self.behind((), (), row)
        self.settle(came, gone, (*self.past, (self.came, self.gone)))

    def undo(self):
        """Take back the last tick or assignment that has not been taken back."""
        if len(self.past) == 0:
            raise NothingDone("no tick and no assignment is left to take back")
        came, gone = self.came[:-1], self.gone[:-1]
        if self.past[-1] is not None:
            came, gone = self.past[-1]
        self.settle(came, gone, self.past[:-1])

    def trying(self):
        """An object for one with statement: an exception that leaves its block takes back what the block did."""
        return Trying(self)

    def __len__(self):
        return len(self.came)

    def __getitem__(self, at):
        if not is_between(at, 0, len(self.gone) - 1):
            raise NoNumber("no tick so far has this number")
        return self.gone[at]

    # Without it Python would iterate by __getitem__, until that raises NoNumber.
    def __iter__(self):
        raise TypeError("gates are not iterated over, but their rows are")

    def __repr__(self):
        return f"{self.NAME}({len(self.came)} ticks, {self.waiting} waiting)"

    def behind(self, came, gone, amounts):
        """The rows of what has come and gone with these ticks behind them; raise for the first one refused."""
        came, gone = list(came), list(gone)
        total = sum(came)
        held = total - sum(gone)
        for amount in amounts:
            need_amount(amount, MOST_REQUESTS)
            total += amount
            if total > MOST_REQUESTS:
                raise TooMany(total, MOST_REQUESTS)
            came.append(amount)
            gone.append(next_through(self.bounds.pairs, gone, held + amount))
            held += amount - gone[-1]
            self.refuse(amount, gone, held)
        return tuple(came), tuple(gone)

    def refuse(self, amount, gone, held):
        """Raise what is to be raised for a tick in which so many come, at the end of which so many are held.

        A Gate refuses none; the classes derived from it do.
        """

    def settle(self, came, gone, past):
        """Hold these rows, and this past: None for each tick, the rows ahead of it for each assignment."""
        self.came = came
        self.gone = gone
        self.past = past
        # No property: a generator of burstlimits.passing has this name, and no other function or method may have it.
        self.waiting = sum(came) - sum(gone)


class Bounded(Gate):
    """A gate at which no more requests than there is room for may wait."""

    NAME = "Bounded"

    def __init__(self, limits, room):
        Gate.__init__(self, limits)
        need_amount(room, MOST_REQUESTS)
        self.most_held = room

    @property
    def room(self):
        """How many requests may wait."""
        return self.most_held

    def refuse(self, amount, gone, held):
        """Raise Full if more are held than there is room for."""
        super().refuse(amount, gone, held)
        if held > self.most_held:
            raise Full(held)


class Prompt(Gate):
    """A gate at which no request may wait longer than there is patience for."""

    NAME = "Prompt"

    def __init__(self, limits, patience):
        Gate.__init__(self, limits)
        need_amount(patience, MOST_PATIENCE)
        self.most_ticks = patience

    @property
    def patience(self):
        """How many ticks a request may wait."""
        return self.most_ticks

    def refuse(self, amount, gone, held):
        """Raise Late if one that comes would wait too long."""
        super().refuse(amount, gone, held)
        if amount > 0:
            # The last one that comes is through when none waits any more.
            ticks = len(all_through(self.bounds.pairs, gone, held, ()))
            if ticks > self.most_ticks:
                raise Late(ticks)


# Prompt stands first, so its refuse asks that of Bounded first: Full comes ahead of Late.
class PromptBounded(Prompt, Bounded):
    """A gate with both room and patience."""

    NAME = "PromptBounded"

    def __init__(self, limits, patience, room):
        Prompt.__init__(self, limits, patience)
        Bounded.__init__(self, limits, room)

    # The interface lists both properties for this class itself, so inheriting them is not enough.
    @property
    def patience(self):
        """How many ticks a request may wait."""
        return self.most_ticks

    @property
    def room(self):
        """How many requests may wait."""
        return self.most_held


def need_amount(amount, greatest):
    """Raise NoAmount for anything but an integer from 0 to the greatest."""
    if not is_between(amount, 0, greatest):
        raise NoAmount(f"an amount is an integer from 0 to {greatest}")
