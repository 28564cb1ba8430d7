"""The errors that the functions of the package raise."""


class NoPlace(LookupError):
    """A place, or another number, that is not there."""

    def __init__(self, place):
        self.place = place


class BadText(ValueError):
    """A text that nothing has; line is its first wrong line, from 1."""

    def __init__(self, line):
        self.line = line


class CanNot(ValueError):
    """What is asked for does not exist."""

    def __init__(self):
        pass


class TooMuch(ValueError):
    """What is asked for would be too great."""

    def __init__(self):
        pass


class Unfit(ValueError):
    """The arguments do not fit together."""

    def __init__(self):
        pass
