"""The errors of the package.

Each class of errors stands right under one of the three base classes, because
no error may be of another class of the package beside its base. So each one
keeps its attributes itself.
"""


class BadValue(ValueError):
    """A value is not as it has to be."""


class InvalidText(BadValue):
    """What was given is not a text of the kind that is asked for."""

    def __init__(self, given):
        self.given = given


class InvalidLine(BadValue):
    """A border book with this line more would be none."""

    def __init__(self, given):
        self.given = given


class InvalidState(BadValue):
    """What was given is no state of the motif."""

    def __init__(self, given):
        self.given = given


class InvalidNumber(BadValue):
    """What was given is no integer within the bounds."""

    def __init__(self, given):
        self.given = given


class InvalidName(BadValue):
    """What was given is no name, that is, no word."""

    def __init__(self, given):
        self.given = given


class InvalidIndex(BadValue):
    """What was given is no index of a claim."""

    def __init__(self, given):
        self.given = given


class InvalidWish(BadValue):
    """What was given is no wish."""

    def __init__(self, given):
        self.given = given


class InvalidClaim(BadValue):
    """What was given is no claim."""

    def __init__(self, given):
        self.given = given


class NotBorders(BadValue):
    """What was given is no Borders."""

    def __init__(self, given):
        self.given = given


class NotARoom(BadValue):
    """What was given is no Room."""

    def __init__(self, given):
        self.given = given


class InvalidSizes(BadValue):
    """The index of the first size that is not right, or None."""

    def __init__(self, index):
        self.index = index


class InvalidFilling(BadValue):
    """The index of the first step that is not right, or None."""

    def __init__(self, index):
        self.index = index


class InvalidNames(BadValue):
    """The index of the first name that is not right, or None."""

    def __init__(self, index):
        self.index = index


class InvalidLines(BadValue):
    """The index of the first line that is not right, or None."""

    def __init__(self, index):
        self.index = index


class BadName(LookupError):
    """A name cannot be used in this way."""


class UnknownName(BadName):
    """The book has no such name."""

    def __init__(self, given):
        self.given = given


class InUse(BadName):
    """The claim with this index is the first one that needs the name."""

    def __init__(self, index):
        self.index = index


class NoAnswer(ArithmeticError):
    """What is asked has no answer."""


class OtherLetters(NoAnswer):
    """Not just the same letters stand in both rooms."""


class TooMany(NoAnswer):
    """There are more than this limit."""

    def __init__(self, limit):
        self.limit = limit


class NothingToUndo(NoAnswer):
    """The book has no change that can be taken back."""


class NotAsked(NoAnswer):
    """The claim with this index cannot be asked."""

    def __init__(self, index):
        self.index = index


class Broken(NoAnswer):
    """The claim with this index does not hold, as what is shown tells."""

    def __init__(self, index, shown):
        self.index = index
        self.shown = shown
