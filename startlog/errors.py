"""The refusals, each of a class of its own straight under StartError."""


class StartError(ValueError):
    """Something was refused; `what` is the thing that it is told with."""

    def __init__(self, what):
        self.what = what


class NoName(StartError):
    """No name has this number."""


class NoRow(StartError):
    """No row has this number."""


class BadMixing(StartError):
    """A mixing can't be made with this argument."""


class NoBoard(StartError):
    """No board has this number."""


class BadLog(StartError):
    """By the row at this place the log can't stand."""


class BadStep(StartError):
    """This is no step of the log."""


class BadHand(StartError):
    """A hand can't be made with this argument."""


class BadMachine(StartError):
    """A machine can't be made with this argument."""


class NotYet(StartError):
    """In this state it can't be done."""


class Fixed(StartError):
    """This board is never reset."""


class BadText(StartError):
    """Nothing has this text."""


class BadLine(StartError):
    """The line of this number isn't so written."""


class Known(StartError):
    """A machine of this name is known."""


class Unknown(StartError):
    """No machine of this name is known."""


class TooMany(StartError):
    """More machines than this many can't be known."""


class BadDeed(StartError):
    """At this place stands no deed."""


class NoNumber(StartError):
    """The machine of this name was asked no number."""


class NoPacket(StartError):
    """At this place nothing is on the way."""
