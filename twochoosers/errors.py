"""The errors of the program.

An error may have to keep an argument that Python cannot turn into text, such as an integer of
very many digits. Therefore no error makes a message of its own from its argument.
"""


class ChooserError(ValueError):
    """The base class of all errors of the program."""


class BadName(ChooserError):
    """A string that should be a name is not one."""

    def __init__(self, name):
        self.name = name


class DuplicateName(ChooserError):
    """A name stands twice where it may stand only once."""

    def __init__(self, name):
        self.name = name


class UnknownName(ChooserError):
    """There is no outcome with this name."""

    def __init__(self, name):
        self.name = name


class BadCount(ChooserError):
    """There are too few or too many of something."""

    def __init__(self, count):
        self.count = count


class BadText(ChooserError):
    """A text does not have the form that can be read."""

    def __init__(self, text):
        self.text = text


class BadSet(ChooserError):
    """A value is not a set of the outcomes in question."""

    def __init__(self, value):
        self.value = value


class BadCell(ChooserError):
    """A value is not a cell of the table."""

    def __init__(self, value):
        self.value = value


class BadSide(ChooserError):
    """A word is not one of the two sides."""

    def __init__(self, word):
        self.word = word


class BadLine(ChooserError):
    """A value is not the number of a line of the side."""

    def __init__(self, number):
        self.number = number


class BadWish(ChooserError):
    """An amount is not an integer."""

    def __init__(self, value):
        self.value = value


class UnlikeOutcomes(ChooserError):
    """Two things that should have the same outcomes have different ones."""

    def __init__(self, names):
        self.names = names


class IsFirm(ChooserError):
    """The table is firm, so what was asked for does not exist."""


class NotFirm(ChooserError):
    """The table is not firm, so what was asked for does not exist."""

    def __init__(self, value):
        self.value = value


class IsSmooth(ChooserError):
    """The table is smooth, so what was asked for does not exist."""


class NothingToUndo(ChooserError):
    """There is no change that could be taken back."""
