"""The errors of the program: each has what it was made with as attributes."""


class WornError(ValueError):
    """The base class of all errors that the program raises."""


class InvalidSheaf(WornError):
    """The row at the index bears no valid record, or a sheaf has no row."""

    def __init__(self, index):
        self.index = index


class InvalidDeed(WornError):
    """The deed at the position is not allowed, or not well formed."""

    def __init__(self, position):
        self.position = position


class InvalidEntry(WornError):
    """The entry does not fit the sheaf."""


class InvalidText(WornError):
    """The word at the position is wrong."""

    def __init__(self, position):
        self.position = position


class InvalidBox(WornError):
    """The tuple at the index has a low above its high, or a box is empty."""

    def __init__(self, index):
        self.index = index


class InvalidDemands(WornError):
    """The demand or the limits of the record are refused."""

    def __init__(self, record):
        self.record = record


class UnknownRecord(WornError):
    """No sheet bears the record."""

    def __init__(self, record):
        self.record = record


class Impossible(WornError):
    """What was asked for cannot be had; the reason can be checked."""

    def __init__(self, reason):
        self.reason = reason


class RepeatedRecord(WornError):
    """Several sheets bear the record."""

    def __init__(self, record):
        self.record = record


class NoOutcome(WornError):
    """There is no such outcome."""


class ContradictoryLog(WornError):
    """No sheaf allows the log up to and including the deed at the position."""

    def __init__(self, position):
        self.position = position


class InvalidRound(WornError):
    """The round at the position is not allowed."""

    def __init__(self, position):
        self.position = position


class WrongMove(WornError):
    """The index may not be named."""

    def __init__(self, index):
        self.index = index


class InvalidName(WornError):
    """The name is not valid."""

    def __init__(self, name):
        self.name = name


class UsedName(WornError):
    """The name is in use."""

    def __init__(self, name):
        self.name = name


class UnknownName(WornError):
    """The desk keeps no sheaf under the name."""

    def __init__(self, name):
        self.name = name


class NothingToUndo(WornError):
    """The journal of the sheaf under the name is empty."""

    def __init__(self, name):
        self.name = name


class NothingToRedo(WornError):
    """The sheaf under the name has no undone deeds."""

    def __init__(self, name):
        self.name = name


class Spoiled(WornError):
    """After the deed at the position the goal could not be met any more."""

    def __init__(self, position, reason):
        self.position = position
        self.reason = reason


class InvalidPage(WornError):
    """The line is wrong."""

    def __init__(self, line):
        self.line = line
