"""The errors of the program."""


class HeardError(ValueError):
    """The base class of all errors of the program."""


class ShapeError(HeardError):
    """A value has not the form that it must have; the name tells what is wrong."""

    def __init__(self, name):
        HeardError.__init__(self, f"wrong shape: {name}")
        self.name = name


class ReadError(HeardError):
    """A text cannot be read; the place tells where."""

    def __init__(self, place):
        HeardError.__init__(self, f"cannot be read: {place}")
        self.place = place
