"""The errors of the package. Each keeps what it was made from, the objects themselves."""


class FloorError(ValueError):
    """What all errors of the package have in common; never raised itself."""


class Wrong(FloorError):
    """The argument at a place is not as described."""

    def __init__(self, place):
        self.place = place


class NoText(FloorError):
    """A line of a text is none that may stand there."""

    def __init__(self, line):
        self.line = line


class CannotDo(FloorError):
    """The move with this index cannot be done."""

    def __init__(self, index):
        self.index = index


class CannotBe(FloorError):
    """The entry with this index cannot be."""

    def __init__(self, index):
        self.index = index


class TooMany(FloorError):
    """There are more than the most that are told."""

    def __init__(self, most):
        self.most = most


class NotNested(FloorError):
    """A knowledge is not nested."""


class NotFit(FloorError):
    """A state does not fit a knowledge."""


class NoIndex(FloorError):
    """There is no state with this index."""

    def __init__(self, index):
        self.index = index


class Broken(FloorError):
    """A duty would not be kept."""

    def __init__(self, duty):
        self.duty = duty


class NoDuty(FloorError):
    """A duty is not owed."""

    def __init__(self, duty):
        self.duty = duty


class Nothing(FloorError):
    """There is nothing to take back, or to do again."""


class NoCommand(FloorError):
    """A line is no command."""
