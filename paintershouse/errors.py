"""The errors that the program raises."""


class PaintError(ValueError):
    """The base class of all errors that the program raises."""


class NotAllowed(PaintError):
    """Raised for a value that is not what it should be."""


class TooLarge(PaintError):
    """Raised for more than a limit lets through."""


class Missing(PaintError):
    """Raised for what is asked for and not there."""


class BadPaper(PaintError):
    """Raised for a paper that shows nothing."""


class BadForm(PaintError):
    """Raised for a text of the wrong form; `line` tells where it is wrong."""

    def __init__(self, line):
        super().__init__(f"wrong form at line {line}")
        self.line = line
