"""Frames, boards, their worths, and plain boards."""

from countboard.errors import NoBoard, NoFrame, NoNumber

MOST_RATIOS = 11
LEAST_RATIO = 2
GREATEST_RATIO = 12


# The words of a refusal never show the number that was handed in: Python
# does not write out numbers of some thousand figures, and fails instead.


def check_frame(ratios):
    """Refuse ratios that make no frame."""
    if len(ratios) > MOST_RATIOS:
        raise NoFrame(f"a frame has at most {MOST_RATIOS} ratios")
    for ratio in ratios:
        if ratio < LEAST_RATIO or ratio > GREATEST_RATIO:
            raise NoFrame(f"a ratio is a number from {LEAST_RATIO} to {GREATEST_RATIO}")


def check_board(ratios, board):
    """Refuse ratios that make no frame, then a list that is no board of it."""
    check_frame(ratios)
    if len(board) != len(ratios) + 1:
        raise NoBoard("a board has one line more than its frame has ratios")
    for counters in board:
        if counters < 0:
            raise NoBoard("no line has fewer counters than nought")


def worths(ratios):
    """Tell the worth of a counter on each line, by rising lines."""
    check_frame(ratios)
    told = [1]
    for ratio in ratios:
        told.append(told[-1] * ratio)
    return told


def worth(ratios, board):
    """Tell the sum of all counters' worths."""
    check_board(ratios, board)
    return sum([each * counters for each, counters in zip(worths(ratios), board)])


def is_plain(ratios, board):
    """Tell whether no line but the last has as many counters as its ratio."""
    check_board(ratios, board)
    # There is no ratio for the last line, so zip leaves that line out.
    return all([counters < ratio for counters, ratio in zip(board, ratios)])


def board_of(ratios, number):
    """Tell the plain board of this worth."""
    check_frame(ratios)
    if number < 0:
        raise NoNumber("no board is worth less than nought")
    board = []
    left = number
    for ratio in ratios:
        board.append(left % ratio)
        left = left // ratio
    board.append(left)
    return board


def plain(ratios, board):
    """Tell the plain board of the same worth."""
    return board_of(ratios, worth(ratios, board))
