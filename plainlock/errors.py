"""The errors that the functions and methods of the package raise."""


class NoPlace(LookupError):
    """What was named is no place there."""

    def __init__(self, place):
        LookupError.__init__(self, place)
        self.place = place


class BadText(ValueError):
    """A text of nothing: line is the first line that can't be so, from 1."""

    def __init__(self, line):
        ValueError.__init__(self, line)
        self.line = line


class Broken(ValueError):
    """An EVENT that can't be played: word says why."""

    def __init__(self, word):
        ValueError.__init__(self, word)
        self.word = word


class CanNot(ValueError):
    """What was asked for is not there, or is not let."""

    def __init__(self):
        ValueError.__init__(self)


class TooMany(ValueError):
    """More than the package goes through."""

    def __init__(self):
        ValueError.__init__(self)


class Unfit(ValueError):
    """An argument is not what it has to be."""

    def __init__(self):
        ValueError.__init__(self)
