"""The errors of Pipeform."""


class PipeError(ValueError):
    """The base class of all errors of Pipeform."""


class InvalidCommand(PipeError):
    """An element of a pipeline is not a command; the value is its index."""

    def __init__(self, value):
        PipeError.__init__(self, f"no command at index {value}")
        self.value = value


class InvalidRun(PipeError):
    """A run has a count less than 1; the value is its index."""

    def __init__(self, value):
        PipeError.__init__(self, f"no positive count at index {value}")
        self.value = value


class InvalidIndex(PipeError):
    """There is no such line; the value is the index."""

    def __init__(self, value):
        PipeError.__init__(self, f"no line at index {value}")
        self.value = value


class InvalidNumber(PipeError):
    """A number is too small; the value is the number."""

    def __init__(self, value):
        PipeError.__init__(self, f"number too small: {value}")
        self.value = value


class Unreadable(PipeError):
    """No pipeline has this text; the value is the text."""

    def __init__(self, value):
        PipeError.__init__(self, f"not the text of a pipeline: {value}")
        self.value = value
