"""The errors of the program."""


class FoldError(ValueError):
    """The base class of all errors of the program."""


class InvalidPage(FoldError):
    """A line of a page is wrong; the value is its index."""

    def __init__(self, value):
        self.value = value


class InvalidWidth(FoldError):
    """A width in a list is wrong; the value is its index."""

    def __init__(self, value):
        self.value = value


class InvalidNumber(FoldError):
    """Nothing has this number; the value is the number, or None."""

    def __init__(self, value):
        self.value = value


class InvalidCommand(FoldError):
    """A command of a script is wrong; the value is its index."""

    def __init__(self, value):
        self.value = value


class NothingToUndo(FoldError):
    """There is no width that could be taken back."""

    def __init__(self, value):
        self.value = value


class Unreadable(FoldError):
    """A text cannot be read; the value is the text."""

    def __init__(self, value):
        self.value = value
