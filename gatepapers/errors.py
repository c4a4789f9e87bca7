"""The refusals of the program, one class for each."""


class GateError(ValueError):
    """Whatever the program refuses."""


class NoText(GateError):
    """What is no text, or a text of another form than a program's."""


class Twice(GateError):
    """One name for two things that need two."""


class NoName(GateError):
    """A name for which nothing stands."""


class NoWidth(GateError):
    """A width or a number that does not fit."""


class TooGreat(GateError):
    """More than is taken."""


class Unlike(GateError):
    """Two circuits that have not as many ins or not as many outs."""


class NotPlain(GateError):
    """A circuit that is not of plain gates."""


class NoShelf(GateError):
    """What is no shelf of gates."""
