"""The errors that the program raises; each tells its reason in fields."""


class SealError(ValueError):
    """The base class of all errors of the program."""


class ThingError(SealError):
    """A thing is not taken into a library."""

    def __init__(self, reason):
        self.reason = reason


class WitnessError(SealError):
    """A witness does not sign."""

    def __init__(self, reason):
        self.reason = reason


class NotebookError(SealError):
    """A notebook does not take a row."""

    def __init__(self, reason):
        self.reason = reason


class ServiceError(SealError):
    """A service does not close its round."""

    def __init__(self, reason):
        self.reason = reason


class PaperError(SealError):
    """A paper is not accepted, because of the step with this number."""

    def __init__(self, step, reason):
        self.step = step
        self.reason = reason


class TextError(SealError):
    """A text is not a paper, because of the line with this number."""

    def __init__(self, line, reason):
        self.line = line
        self.reason = reason


class ChainError(SealError):
    """A chain does not stand, because of the link with this index."""

    def __init__(self, link, reason):
        self.link = link
        self.reason = reason


class JournalError(SealError):
    """A journal is one that no service has written, because of the deed with this number."""

    def __init__(self, deed, reason):
        self.deed = deed
        self.reason = reason
