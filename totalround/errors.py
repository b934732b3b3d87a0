"""The refusals of the package."""


class RoundError(ValueError):
    """Any refusal."""


class NoShape(RoundError):
    """What was handed in makes no shape."""


class NoSource(RoundError):
    """What was handed in makes no source, or names none."""


class NoRecord(RoundError):
    """A record is refused; the name is that of the field at fault, or "" of the whole record."""

    def __init__(self, name):
        self.name = name


class NoOrder(RoundError):
    """A key falls: the name of the source, and the row's number in it."""

    def __init__(self, name, at):
        self.name = name
        self.at = at


class NoProgram(RoundError):
    """What was handed in makes no program."""


class NoText(RoundError):
    """A text is no program's; the row is the number of the first row at fault."""

    def __init__(self, row):
        self.row = row


class NoEven(RoundError):
    """A program is not of the kind that was asked for."""


class TooLong(RoundError):
    """More steps and lines are done than are let by."""
