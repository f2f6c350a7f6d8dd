"""The errors that the document names."""


class DyeError(ValueError):
    """The base class of all errors of the program. Its field `thing` tells what was refused."""

    def __init__(self, thing):
        # No text is made of the thing here: Python refuses to print very long numbers.
        self.thing = thing


class BadName(DyeError):
    """The thing is not a string of 1 to 12 small letters."""


class BadHold(DyeError):
    """The thing is not one of the three holds."""


class BadNumber(DyeError):
    """The thing is not a whole number, or not one that may stand there."""


class BadAmount(DyeError):
    """The thing is not an amount, or not an amount of the book."""


class Known(DyeError):
    """The thing is a name that stands there already."""


class Unknown(DyeError):
    """The thing is a name or a word that is not known there."""


class Full(DyeError):
    """The thing is the number of things beyond which no further one is taken."""


class NotSure(DyeError):
    """The thing is a form that is not sure."""


class RingOfWishes(DyeError):
    """The thing is a ring of wishes."""


class BadLine(DyeError):
    """The thing is the number of a line that cannot be carried out."""
