"""The refusals: one class for each kind, all of them under CountError."""


class CountError(ValueError):
    """Any refusal."""


class NoHouse(CountError):
    """What was handed in makes no house."""


class NoEntry(CountError):
    """It is no entry of these places and goods."""


class NoName(CountError):
    """Nothing is called so."""


class NoMove(CountError):
    """The entry is no move."""


class NoGo(CountError):
    """The entry is no go."""


class Twice(CountError):
    """An entry of this name is there."""


class TooMany(CountError):
    """There would be more than there may be."""


class NoFilling(CountError):
    """The good clashes."""


class NoTie(CountError):
    """It is no tie of the good."""


class Closed(CountError):
    """It would change a closed day."""


class NoDay(CountError):
    """No days can be closed so."""


class NoThen(CountError):
    """There are not so many rows."""


class Clash(CountError):
    """Names cannot be exchanged so."""


class NoGood(CountError):
    """It is no good there."""


class NoPlace(CountError):
    """It is no place there."""


class NoRow(CountError):
    """It is no row that a desk is told."""


class NoText(CountError):
    """The text is not written as it must be; line is the number, from 0, of the first wrong line."""

    def __init__(self, line):
        self.line = line
