"""Notes: boards written as texts, and read again."""

from countboard.boards import check_board, check_frame
from countboard.errors import NoNote

FIGURES = "0123456789"
MOST_FIGURES = 30


def shown(ratios, board):
    """Tell the board as a text, from the last line down."""
    check_board(ratios, board)
    return "|".join([str(counters) for counters in reversed(board)])


def check_part(part):
    """Refuse what is no number as a line's counters are written."""
    if part == "" or len(part) > MOST_FIGURES:
        raise NoNote(f"a line has one figure or more, and at most {MOST_FIGURES}")
    # Python's int would also take signs, blanks and low lines.
    if not all([sign in FIGURES for sign in part]):
        raise NoNote("a line is written by figures alone")
    if len(part) > 1 and part[0] == "0":
        raise NoNote("no nought stands ahead of other figures")


def read(ratios, text):
    """Tell the board that the text is a note of."""
    check_frame(ratios)
    parts = text.split("|")
    if len(parts) != len(ratios) + 1:
        raise NoNote("a note has one line more than the frame has ratios")
    for part in parts:
        check_part(part)
    return [int(part) for part in reversed(parts)]
