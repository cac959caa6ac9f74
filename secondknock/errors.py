"""The errors of the package: what was named and is not there, and what can not be."""


class NoRing(LookupError):
    """There is no RING of this number."""

    def __init__(self, number):
        self.number = number


class NoSpot(LookupError):
    """There is no such SPOT, or it is not one of the kind that is asked for."""

    def __init__(self, spot):
        self.spot = spot


class NoGap(LookupError):
    """There is no such GAP."""

    def __init__(self, gap):
        self.gap = gap


class NoZone(LookupError):
    """There is no ZONE of this number."""

    def __init__(self, number):
        self.number = number


class NoLine(LookupError):
    """There is no LINE of this number."""

    def __init__(self, number):
        self.number = number


class NoOut(LookupError):
    """There is no OUT of this number."""

    def __init__(self, number):
        self.number = number


class NoPanel(LookupError):
    """There is no panel, or no link, of this number."""

    def __init__(self, number):
        self.number = number


class NoPlace(LookupError):
    """There is no place of this number."""

    def __init__(self, number):
        self.number = number


class NoTick(LookupError):
    """There is no tick, or no stretch of ticks, of this number."""

    def __init__(self, number):
        self.number = number


class NothingDone(LookupError):
    """There is nothing to take back, or to do again."""


class BadLine(ValueError):
    """The line of this number can not stand there."""

    def __init__(self, number):
        self.number = number


class CanNot(ValueError):
    """What is asked for can not be had."""


class TooMany(ValueError):
    """What is asked for is more than the document's limit."""


class Unfit(ValueError):
    """What is passed in does not fit together."""
