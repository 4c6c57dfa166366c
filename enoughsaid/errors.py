"""The refusals, one class each, all straight under EnoughError."""


class EnoughError(ValueError):
    """Any refusal."""


class NoWish(EnoughError):
    """What was handed in makes no wish."""


class NoRow(EnoughError):
    """What was handed in is no row, no out or no set of names."""


class TooGreat(EnoughError):
    """Two wishes have too many names in all."""


class NoCost(EnoughError):
    """What was handed in are no costs for the wish."""


class NoAnswer(EnoughError):
    """What was handed in makes no answer."""


class NoRule(EnoughError):
    """What was handed in is no rule."""


class NoAsk(EnoughError):
    """What was handed in makes no asker or no ask."""


class NoTime(EnoughError):
    """What was handed in is no moment, or one that has gone by."""


class NoBook(EnoughError):
    """What was handed in is no book that an asker wrote."""


class NoText(EnoughError):
    """What was handed in can't be read; at is the place of what is wrong, or None."""

    def __init__(self, at=None):
        EnoughError.__init__(self, f"can't be read, at {at!r}")
        self.at = at
