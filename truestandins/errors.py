"""All errors of the package; each keeps its only argument."""


class WireError(ValueError):
    """What all errors of the package derive from."""

    def __init__(self, value):
        self.value = value


class BadWorths(WireError):
    """Not 2, 3 or 4 worths."""


class BadText(WireError):
    """A text that is no string (-1), or the number of its first bad line."""


class BadInner(WireError):
    """No inner of this part, or none that waits."""


class BadCall(WireError):
    """No call of this part."""


class BadAnswer(WireError):
    """No answer of so many worths."""


class BadPact(WireError):
    """No pact, or none that fits."""


class BadWord(WireError):
    """No word of a wire, or none that fits."""


class NoPart(WireError):
    """No name of a part of the system."""


class NoWire(WireError):
    """No wire of the system."""


class BadPart(WireError):
    """No part, or none that fits."""


class NotKept(WireError):
    """The name of a part that breaks a pact, or the empty string for the whole."""


class TooMany(WireError):
    """How many there may be at most."""


class BadMore(WireError):
    """Nothing that may come behind this word."""


class BadOffers(WireError):
    """No offers of pacts."""


class BadFaults(WireError):
    """No faulty parts that fit."""


class BadRows(WireError):
    """No rows of states."""


class BadDoors(WireError):
    """No ascending tuple of names of doors."""


class BadTest(WireError):
    """A test that does not fit the system."""


class BadBeside(WireError):
    """Nothing that a test can run beside."""


class Ended(WireError):
    """An event was not let: nothing can come behind it."""


class NoEvent(WireError):
    """No event that can come."""


class Amid(WireError):
    """Calls are open."""


class BadEdit(WireError):
    """No edit that fits."""


class NothingToUndo(WireError):
    """Nothing that can be taken back."""


class NothingToRedo(WireError):
    """Nothing that was taken back."""


class BadRun(WireError):
    """No tuple of events."""


class BadLine(WireError):
    """No line that a desk knows."""
