"""Steps that raise counters to the next line or lower them from it."""

from countboard.boards import check_board
from countboard.errors import NoStep


def can_raise(ratios, board, line):
    """Tell whether the line has as many counters as its ratio."""
    return board[line] >= ratios[line]


def can_lower(board, line):
    """Tell whether the next line has a counter to lower to this one."""
    return board[line + 1] >= 1


def can(ratios, board):
    """Tell all steps that can be done, by rising lines, raising first."""
    check_board(ratios, board)
    steps = []
    for line in range(len(ratios)):
        if can_raise(ratios, board, line):
            steps.append((line, True))
        if can_lower(board, line):
            steps.append((line, False))
    return steps


def check_step(ratios, board, line, up):
    """Refuse a step that can't be done on a board of the frame."""
    # A line below nought would be taken as an index from the list's end.
    if line < 0 or line >= len(ratios):
        raise NoStep("a step is of a line of the frame that is not the last one")
    if up and not can_raise(ratios, board, line):
        raise NoStep("the line has too few counters to raise")
    if not up and not can_lower(board, line):
        raise NoStep("the next line has no counter to lower")


def stepped(ratios, board, line, up):
    """Tell the board behind a step."""
    check_board(ratios, board)
    check_step(ratios, board, line, up)
    behind = list(board)
    if up:
        behind[line] = behind[line] - ratios[line]
        behind[line + 1] = behind[line + 1] + 1
    else:
        behind[line + 1] = behind[line + 1] - 1
        behind[line] = behind[line] + ratios[line]
    return behind


def raisings(ratios, board):
    """Tell how often each line but the last is raised until none can be."""
    check_board(ratios, board)
    told = []
    raised = 0
    # A line gains only what the line beneath raises to it, so one walk
    # upward finds the whole number of raisings, whatever their order.
    for ratio, counters in zip(ratios, board):
        raised = (counters + raised) // ratio
        told.append(raised)
    return told
