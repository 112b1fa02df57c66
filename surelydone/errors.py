"""All errors of the program. Each one, apart from the base class and NothingDone, keeps what it tells of."""


class DoneError(ValueError):
    """The base class of all errors of the program."""


class BadState(DoneError):
    """A value is not a state."""

    def __init__(self, value):
        self.value = value


class BadSteps(DoneError):
    """The steps of a hand are wrong at an index, or as a whole (-1)."""

    def __init__(self, at):
        self.at = at


class BadHands(DoneError):
    """The hands of a system are wrong at an index, or as a whole (-1)."""

    def __init__(self, at):
        self.at = at


class BadDiligent(DoneError):
    """A value does not tell which hands are diligent."""

    def __init__(self, value):
        self.value = value


class BadWords(DoneError):
    """A value is neither words nor one of the words."""

    def __init__(self, value):
        self.value = value


class BadStates(DoneError):
    """A value is not a standing of the system."""

    def __init__(self, value):
        self.value = value


class BadMove(DoneError):
    """A value is not a move at the standing."""

    def __init__(self, value):
        self.value = value


class BadRun(DoneError):
    """A run is wrong at an index, or as a whole (-1)."""

    def __init__(self, at):
        self.at = at


class TooMany(DoneError):
    """There are more of something than the limit allows."""

    def __init__(self, limit):
        self.limit = limit


class NothingDone(DoneError):
    """There is no deed that could be taken back."""
