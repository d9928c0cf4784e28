"""The errors of the package, each with the values that it was raised for."""


class BlockError(ValueError):
    """What every error of the package is."""


class AllKnown(BlockError):
    """Nothing is left to be asked of a hidden POOL."""

    def __init__(self):
        BlockError.__init__(self, "no cell may be free that is not known to be")


class BadAnswer(BlockError):
    """A RULE or a hidden POOL gave an answer that it can't give."""

    def __init__(self, answer):
        BlockError.__init__(self, "no such answer can be given here")
        self.answer = answer


class BadLine(BlockError):
    """A line, counted from 0, is no request."""

    def __init__(self, number):
        BlockError.__init__(self, "this line is no request")
        self.number = number


class BadText(BlockError):
    """A piece of a text, counted from 0, is not so written."""

    def __init__(self, piece):
        BlockError.__init__(self, "this piece of the text is wrong")
        self.piece = piece


class Known(BlockError):
    """There is a POOL with this NAME already."""

    def __init__(self, name):
        BlockError.__init__(self, "there is a pool of this name already")
        self.name = name


class NoNumber(BlockError):
    """Nothing has this number."""

    def __init__(self, number):
        BlockError.__init__(self, "nothing has this number")
        self.number = number


class NoPlace(BlockError):
    """There is no free place: for this cell, or for the ask with this number."""

    def __init__(self, number):
        BlockError.__init__(self, "there is no free place for this")
        self.number = number


class NoPool(BlockError):
    """No POOL has this NAME."""

    def __init__(self, name):
        BlockError.__init__(self, "there is no pool of this name")
        self.name = name


class NoSize(BlockError):
    """The CHAIN has no such size."""

    def __init__(self, size):
        BlockError.__init__(self, "there is no such size")
        self.size = size


class NothingDone(BlockError):
    """There is no deed to take back."""

    def __init__(self):
        BlockError.__init__(self, "there is no deed to take back")
