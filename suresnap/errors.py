"""The errors of the program."""


class SnapError(ValueError):
    """The base class of all errors."""


class TextError(SnapError):
    """A text that is not the text of a list of news."""

    def __init__(self, place, message):
        self.place = place
        self.message = message

    def __str__(self):
        return f"{self.message} at {self.place}"


class Contradiction(SnapError):
    """News with which no history agrees."""


class NoSuchChange(SnapError):
    """A number that no open change has."""
