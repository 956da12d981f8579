"""The errors of the package."""


class SwapError(ValueError):
    """The base of all other errors."""


class NoForest(SwapError):
    """The argument is no forest."""


class NoPosition(SwapError):
    """The integer is no position."""


class NoEdge(SwapError):
    """The pair is no edge."""


class NoItem(SwapError):
    """The string is no item that is known here."""


class NoArrangement(SwapError):
    """The argument is no arrangement."""


class NoOrder(SwapError):
    """The argument is no order."""


class NoTurns(SwapError):
    """The argument is no list of turns."""


class NoObservation(SwapError):
    """The argument is no observation."""


class NoNumber(SwapError):
    """The integer numbers nothing here."""


class Nothing(SwapError):
    """There is nothing to undo."""


class NoText(SwapError):
    """The string is not the text of a value; at is the first part that cannot stand."""

    def __init__(self, at):
        SwapError.__init__(self, f"part {at} of the text cannot stand there")
        self.at = at


class NotReached(SwapError):
    """The arrangement cannot result; reason tells why, or is None."""

    def __init__(self, reason):
        SwapError.__init__(self, f"this cannot result: {reason!r}")
        self.reason = reason


class TooMany(SwapError):
    """There are more outcomes than the package lists; many is how many."""

    def __init__(self, many):
        SwapError.__init__(self, f"{many} are too many to list")
        self.many = many
