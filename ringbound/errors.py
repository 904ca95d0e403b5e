"""The errors of the program."""


class RingError(ValueError):
    """Any refusal; what raises it has changed nothing."""

    def __init__(self):
        ValueError.__init__(self)


class NotValid(RingError):
    """An argument is outside of its bounds."""

    def __init__(self):
        RingError.__init__(self)
