"""The refusals of the program, one class for each kind."""


class SideError(ValueError):
    """Any refusal."""


class NoDeed(SideError):
    """There is no such deed."""


class Clash(SideError):
    """Two sides touch one cell, and one of them writes it."""


class BadRounds(SideError):
    """Rounds that have a fault."""


class TooMany(SideError):
    """More deeds than can be tried out."""


class NameTaken(SideError):
    """Two deeds would have one name."""


class Locked(SideError):
    """A deed that is tied to an open one."""


class NoText(SideError):
    """A text that is no row's."""
