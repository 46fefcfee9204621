"""The refusals, each a class of its own under BoardError."""


class BoardError(ValueError):
    """Any refusal."""


class NoFrame(BoardError):
    """The ratios make no frame."""


class NoBoard(BoardError):
    """The list is no board of the frame."""


class NoNumber(BoardError):
    """The number is too small for what is asked."""


class NoStep(BoardError):
    """The step can't be done."""


class NoWay(BoardError):
    """No row of steps leads from the one board to the other."""


class TooLong(BoardError):
    """The row of steps is too long to be told."""


class NoLess(BoardError):
    """The second board is worth more than the first one."""


class NoNote(BoardError):
    """The text is no note of a board of the frame."""
