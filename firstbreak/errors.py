"""The errors of this package, each for one kind of failure."""


class BreakError(ValueError):
    """What all errors of this package are under."""


class BadHistory(BreakError):
    """Something is no history, or a text cannot be read."""

    def __init__(self, line, reason):
        super().__init__(f"line {line}: {reason}")
        self.line = line
        self.reason = reason


class BadAnswer(BreakError):
    """The entry at a place is none that can be taken."""

    def __init__(self, place):
        super().__init__(f"place {place}")
        self.place = place


class BadState(BreakError):
    """What is asked for cannot be done as things stand."""


class TooGreat(BreakError):
    """A search would have to look at too many states."""
