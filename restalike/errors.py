"""The errors that the package raises, with their fields."""


class RestError(ValueError):
    """The base class of all errors of the package."""


class BadNet(RestError):
    """A value is no net; part is "whole", "halls" or "pairs", whichever is wrong first."""

    def __init__(self, part):
        self.part = part


class BadWays(RestError):
    """A value is no one-way net; part is "whole", "halls" or "ways", whichever is wrong first."""

    def __init__(self, part):
        self.part = part


class BadTurn(RestError):
    """A value is no turn of 1 to 9 halls."""


class BadNumber(RestError):
    """A value is no integer within the limits of its argument."""


class BadPair(RestError):
    """Two values are not two unlike halls of the net."""


class Unlike(RestError):
    """A turn and a net are not of as many halls."""


class NoTurn(RestError):
    """A turn leads no net to its rest."""


class NoStep(RestError):
    """There is no step to take back."""


class BadText(RestError):
    """A value is no string."""


class BadLine(RestError):
    """A text tells no net; line and word, counted from 1, are the first place that is wrong."""

    def __init__(self, line, word):
        self.line = line
        self.word = word
