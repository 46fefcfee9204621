"""Ways: rows of steps that lead from one board to another of the same worth."""

from countboard.boards import worth
from countboard.errors import NoWay, TooLong

MOST_STEPS = 2000


def net(ratios, one, other):
    """Tell for each line but the last how many more steps raise on it than lower."""
    if worth(ratios, one) != worth(ratios, other):
        raise NoWay("steps lead only to boards of the same worth")
    nets = []
    often = 0
    # What a line has too many, with what came from beneath, must all go up.
    # As the worths are the same, nothing is ever left over in the division.
    for ratio, here, there in zip(ratios, one, other):
        often = (here + often - there) // ratio
        nets.append(often)
    return nets


def fewest(ratios, one, other):
    """Tell how many steps a shortest row has."""
    return sum([abs(often) for often in net(ratios, one, other)])


def way(ratios, one, other):
    """Tell a shortest row of steps."""
    # The length is known from the nets, so no long row is built to be refused.
    if fewest(ratios, one, other) > MOST_STEPS:
        raise TooLong(f"a way of more than {MOST_STEPS} steps is not told")
    nets = list(enumerate(net(ratios, one, other)))
    row = []
    # A line that is raised gets counters from beneath alone, so by rising
    # lines all that it needs has come; one that is lowered to gets them from
    # above alone, so there the order is the contrary.
    for line, often in nets:
        if often > 0:
            row.extend([(line, True)] * often)
    for line, often in reversed(nets):
        if often < 0:
            row.extend([(line, False)] * abs(often))
    return row
