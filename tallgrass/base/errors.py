"""The errors that the program raises on purpose."""


class GrassError(ValueError):
    """The base class of all errors of the program."""


class BadName(GrassError):
    """Something that should be a name has not the form of one."""

    def __init__(self, name):
        self.name = name


class Unknown(GrassError):
    """A name that is not there in the group in question."""

    def __init__(self, name):
        self.name = name


class Twice(GrassError):
    """A name or a note that may stand once stands a second time."""

    def __init__(self, name):
        self.name = name


class BadPath(GrassError):
    """A path without two different ends, or a path in place of two."""

    def __init__(self, name):
        self.name = name


class BadPlacing(GrassError):
    """A name that has no fitting entry in a dict, or should have none."""

    def __init__(self, name):
        self.name = name


class BadNumber(GrassError):
    """A number outside of its bounds."""

    def __init__(self, number):
        self.number = number


class TooMany(GrassError):
    """More than the most that is allowed."""

    def __init__(self, most):
        self.most = most


class BadGoing(GrassError):
    """A going that is not possible where it stands."""

    def __init__(self, index):
        self.index = index


class OutOfReach(GrassError):
    """A station that no day can pass."""

    def __init__(self, index):
        self.index = index


class BadMark(GrassError):
    """Something that is not a mark of the sign."""

    def __init__(self, mark):
        self.mark = mark


class BadNote(GrassError):
    """A tuple that is not a note, or a note of a kind that is not allowed."""

    def __init__(self, note):
        self.note = note


class NotThere(GrassError):
    """A note or a number that should be there and is not."""

    def __init__(self, thing):
        self.thing = thing


class BadLine(GrassError):
    """The first bad line of a text, counted from 1."""

    def __init__(self, line):
        self.line = line


class Clash(GrassError):
    """Two things that do not belong together."""


class NoDay(GrassError):
    """A day that fits is needed, and there is none."""


class TooLarge(GrassError):
    """The meadow is larger than this question allows."""
