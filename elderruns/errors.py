"""The errors of the program: each keeps the one thing that it is constructed with."""


class RunError(ValueError):
    """The base class of all errors of the program."""

    def __init__(self, value):
        self.value = value


class InvalidName(RunError):
    """A name is not one to eight letters from a to z."""


class InvalidSize(RunError):
    """The size of a cell, or the number of arguments of a handler, is less than 1."""


class DoubleName(RunError):
    """A name stood before."""


class UnknownName(RunError):
    """A name stands for nothing where it is used."""


class InvalidDivisor(RunError):
    """A divisor is less than 1."""


class NotHere(RunError):
    """The argument of an event, or what a cell holds now, stands outside of a handler."""


class UnknownHandler(RunError):
    """A name is that of no handler."""


class InvalidArgument(RunError):
    """A handler does not take this argument."""


class EmptyBatch(RunError):
    """A batch has no event."""


class UnlikeHandlers(RunError):
    """Two parts do not have the same handlers."""


class NotRight(RunError):
    """A part is not right."""


class NothingToUndo(RunError):
    """No batch is left that could be taken back."""


class Unreadable(RunError):
    """No value or part has this text."""
