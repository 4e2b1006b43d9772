"""The refusals: one class for each kind, all of them under LineError."""


class LineError(ValueError):
    """Any refusal."""


class NoLine(LineError):
    """A line whose m is below 1."""


class NoTurn(LineError):
    """A line that cannot be turned, or not be gone along."""


class NoText(LineError):
    """A text that is not that of a line."""


class NoStretch(LineError):
    """Two bounds that make no stretch."""


class NoPlace(LineError):
    """A number beyond those of the places in order."""


class NoMap(LineError):
    """A map, or the number that it is taken at, that is none."""


class NoAsk(LineError):
    """A line that the desk does not answer."""
