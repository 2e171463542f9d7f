"""The refusals."""


class KindError(ValueError):
    """Any refusal."""


class NoKind(KindError):
    """A text writes no kind."""


class NoText(KindError):
    """A text writes no program."""


class NoFit(KindError):
    """A program has no kind: its part at the place has none, though all its own parts have one."""

    def __init__(self, place):
        KindError.__init__(self, "a part of the program has no kind")
        self.place = place


class NoStep(KindError):
    """At a place no step can be done."""


class TooLong(KindError):
    """Too many steps would be done, or a program would become too large."""


class TooMany(KindError):
    """There are more than can be told."""


class NoLong(KindError):
    """A program is no plain long one of the kind."""


class NoMaking(KindError):
    """A list is no making: its tuple with the number at cannot stand there."""

    def __init__(self, at):
        KindError.__init__(self, "a tuple of the making cannot stand there")
        self.at = at


class NoNumber(KindError):
    """Nothing has a number."""


class NoRow(KindError):
    """What a desk is told is none of its rows."""


class NoName(KindError):
    """By a name nothing stands, or it is no name."""


class Twice(KindError):
    """A given name stands already."""


class Used(KindError):
    """A given name is used in a draft."""


class NoGap(KindError):
    """There is no such gap, or a gap where none may be."""


class NoTree(KindError):
    """No tree bars a kind that some program has."""


class NoUndo(KindError):
    """Nothing is left to undo."""
