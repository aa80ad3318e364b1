"""The errors that the package raises."""


class SplitError(ValueError):
    """The base class of all errors of the package."""


class InvalidCount(SplitError):
    """A number of processes or of names that is not allowed."""


class InvalidSchedule(SplitError):
    """A value that is not a schedule."""


class InvalidOutcome(SplitError):
    """A value that is not an outcome."""


class InvalidCell(SplitError):
    """A value that is not a coordinate of a cell."""


class InvalidName(SplitError):
    """A value that is not a name."""


class InvalidNames(SplitError):
    """A value that is not a name list."""


class InvalidNumber(SplitError):
    """A number that no name list has."""


class InvalidProcess(SplitError):
    """A value that is not a process that can perform a step."""


class InvalidText(SplitError):
    """A value that is not a text of the wanted form."""


class InvalidCommand(SplitError):
    """A row that is not a command."""


class NoRun(SplitError):
    """A command that needs a run, while there is none."""


class NothingToUndo(SplitError):
    """An undo without a change that could be reverted."""


class Impossible(SplitError):
    """A name list that is not possible, with the diagonal at which it is stuck."""

    def __init__(self, diagonal):
        super().__init__(f"the name list is stuck at the diagonal {diagonal}")
        self.diagonal = diagonal


class TooLarge(SplitError):
    """An argument that is greater than the limit of the function."""

    def __init__(self, limit):
        super().__init__(f"the limit is {limit}")
        self.limit = limit
