"""The errors of the package."""


class TourError(ValueError):
    """The base class of all errors of the package."""


class BadNet(TourError):
    """A value is no net; part is "whole", "halls" or "ways"."""

    def __init__(self, part):
        self.part = part


class BadHall(TourError):
    """A value is no hall of the net."""


class BadWay(TourError):
    """A value is no way of the net."""


class BadLot(TourError):
    """A value is no lot of ways of the net."""


class NotEven(TourError):
    """A net is not even."""


class TooMany(TourError):
    """There are more of what is asked for than most."""

    def __init__(self, most):
        self.most = most


class NoWay(TourError):
    """No way leads to a hall from where one is, or it has been gone."""


class NoStep(TourError):
    """There is no step to take back."""


class BadText(TourError):
    """A value is no string."""


class BadLine(TourError):
    """A word of a text cannot stand or is lacking; line and word are counted from 1."""

    def __init__(self, line, word):
        self.line = line
        self.word = word
