"""Reckoning with boards; what comes of it is told as plain boards."""

from countboard.boards import board_of, worth
from countboard.errors import NoLess, NoNumber


def added(ratios, one, other):
    """Tell the sum of two boards."""
    return board_of(ratios, worth(ratios, one) + worth(ratios, other))


def less(ratios, one, other):
    """Tell the first board less the second one."""
    left = worth(ratios, one) - worth(ratios, other)
    if left < 0:
        raise NoLess("the second board is worth more than the first one")
    return board_of(ratios, left)


def times(ratios, board, number):
    """Tell the board times a number, nought or more."""
    whole = worth(ratios, board)
    # A board worth nought gives nought with any number, so the product
    # doesn't show whether the number was below nought.
    if number < 0:
        raise NoNumber("a board is not taken fewer times than nought")
    return board_of(ratios, whole * number)


def parted(ratios, board, number):
    """Tell the board parted by a number, one or more, and what is left."""
    whole = worth(ratios, board)
    if number < 1:
        raise NoNumber("a board is not parted by a number below one")
    return (board_of(ratios, whole // number), whole % number)
