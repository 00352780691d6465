"""The errors of the package.

None of them puts a message together: Python shows what an error was created with,
and so every value can be told, whatever its text is.
"""


class WireError(ValueError):
    """The base class of the other errors."""


class NoSize(WireError):
    """A size is below 1, or it does not fit."""

    def __init__(self, size):
        self.size = size


class NoRing(WireError):
    """The ring with this index is none."""

    def __init__(self, index):
        self.index = index


class NoPlace(WireError):
    """A number is no place."""

    def __init__(self, place):
        self.place = place


class WrongSize(WireError):
    """A wire has this size, and another one is due."""

    def __init__(self, size):
        self.size = size


class NoText(WireError):
    """A text is the text of nothing."""

    def __init__(self, text):
        self.text = text


class NoName(WireError):
    """A string is no name of a hole."""

    def __init__(self, name):
        self.name = name


class NoKind(WireError):
    """A string is no kind."""

    def __init__(self, kind):
        self.kind = kind


class NoMost(WireError):
    """A number bounds no pairs, or the kind has none to bound."""

    def __init__(self, most):
        self.most = most


class TwoKinds(WireError):
    """A name stands for holes of two kinds."""

    def __init__(self, name):
        self.name = name


class NoPart(WireError):
    """The part with this number is no part of a word."""

    def __init__(self, part):
        self.part = part


class Unfilled(WireError):
    """There is no wire for the hole with this name."""

    def __init__(self, name):
        self.name = name


class WrongKind(WireError):
    """The wire for the hole with this name is not of its kind."""

    def __init__(self, name):
        self.name = name


class NoQuot(WireError):
    """A lower polynomial is 0."""


class NoValue(WireError):
    """A quotient has no value at this number."""

    def __init__(self, n):
        self.n = n


class NoShare(WireError):
    """The hole with this name is for swaps without a bound."""

    def __init__(self, name):
        self.name = name


class NoSighting(WireError):
    """A book has no sighting with this number."""

    def __init__(self, k):
        self.k = k


class NoHalves(WireError):
    """The number of rings of this length is odd."""

    def __init__(self, length):
        self.length = length
