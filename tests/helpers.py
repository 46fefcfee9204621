"""What several tests share: samples, and an exact look at refusals."""

import itertools
import unittest

BAD_RATIO_VALUES = [1, 0, -1, -2, -12, 13, 14, 10**40, -(10**40)]

# Frames of no, one and several ratios, with the least and the greatest ratio,
# so small that all boards and all orders can be walked.
SMALL_FRAMES = [[], [2], [3], [12], [2, 2], [2, 3], [3, 2], [4, 12], [12, 2], [2, 3, 2], [3, 2, 4]]

FRAMES = SMALL_FRAMES + [
    [2] * 11,
    [12] * 11,
    [2, 3, 4, 5, 6, 7, 8, 9, 10, 11, 12],
    [12, 11, 10, 9, 8, 7, 6, 5, 4, 3, 2],
    [4, 12, 10, 10],
]

GREAT = 10**5000


def bad_frames():
    """Frames with one bad ratio at the first, a middle and the last place, and too long ones."""
    told = [[2] * 12, [12] * 12, [5] * 13, [2] * 100]
    for value in BAD_RATIO_VALUES:
        told.append([value])
        for length in (3, 11):
            for place in (0, length // 2, length - 1):
                ratios = [2] * length
                ratios[place] = value
                told.append(ratios)
    return told


def bad_boards(ratios):
    """Lists that are no boards of a frame: too short, too long, below nought at each place."""
    lines = len(ratios) + 1
    told = [[0] * (lines - 1), [0] * (lines + 1), [3] * (lines + 1), [-1] * lines]
    for place in range(lines):
        for value in (-1, -GREAT):
            board = [20] * lines
            board[place] = value
            told.append(board)
    return told


def worth_by_hand(ratios, board):
    """The board's worth, told from the last line down: another way than the program's."""
    told = board[-1]
    for ratio, counters in zip(reversed(ratios), reversed(board[:-1])):
        told = told * ratio + counters
    return told


def all_boards(ratios, most):
    """All boards of a frame with at most so many counters on each line."""
    return [list(board) for board in itertools.product(range(most + 1), repeat=len(ratios) + 1)]


def boards_by_worth(ratios, most):
    """The boards of a frame with at most so many counters on each line, as lists of those of one worth."""
    told = {}
    for board in all_boards(ratios, most):
        told.setdefault(worth_by_hand(ratios, board), []).append(board)
    return list(told.values())


def board_pairs_of_unlike_worths(ratios):
    """Pairs of boards whose worths differ by one or by very much."""
    lines = len(ratios) + 1
    told = []
    for counters in (0, 3, GREAT):
        for more in (1, GREAT):
            one = [counters] * lines
            other = [counters + more] + [counters] * (lines - 1)
            told += [(one, other), (other, one)]
    return told


class BoardCase(unittest.TestCase):
    def assert_refused(self, refusal, called, *handed):
        """The call is refused with this very class, and not one under it."""
        with self.assertRaises(ValueError) as caught:
            called(*handed)
        self.assertIs(type(caught.exception), refusal)
