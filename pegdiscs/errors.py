"""The refusals of the program."""


class PegError(ValueError):
    """Any refusal."""


class BadSetting(PegError):
    """What was handed in is no setting."""


class Unlike(PegError):
    """Two settings have unlike many discs."""


class BadPegs(PegError):
    """What was handed in is no peg, or one peg stands where two are needed."""


class BadDiscs(PegError):
    """What was handed in is no number of discs."""


class BadCount(PegError):
    """What was handed in is no number of a setting."""


class TooMany(PegError):
    """The way has more moves than are told in a list."""


class BadMove(PegError):
    """At the place `at` stands no move that may be there; None: there is no list of moves."""

    def __init__(self, at):
        PegError.__init__(self, f"no move that may be there, at {at}")
        self.at = at
