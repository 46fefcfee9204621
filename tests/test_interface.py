"""The interface, and what points 1 to 3 promise of every function: what is refused first, and that nothing is kept."""

import copy
import inspect
import unittest

from countboard import boards, notes, reckoning, steps, ways
from countboard.errors import NoBoard, NoFrame
from tests.helpers import BoardCase, bad_boards, bad_frames

TWO_OF_ONE_WORTH = [[[], [5], [5]], [[4, 12], [9, 14, 2], [9, 14, 2]], [[4, 12], [9, 14, 2], [1, 28, 1]]]
TWO_BOARDS = TWO_OF_ONE_WORTH + [[[], [5], [0]], [[4, 12], [9, 14, 2], [3, 11, 2]]]

# Each function with its arguments' names and some arguments to hand in.
CALLS = [
    (boards.worths, ["ratios"], [[[]], [[4, 12]]]),
    (boards.worth, ["ratios", "board"], [[[], [5]], [[4, 12], [9, 14, 2]]]),
    (boards.is_plain, ["ratios", "board"], [[[], [5]], [[4, 12], [9, 14, 2]], [[4, 12], [3, 11, 2]]]),
    (boards.board_of, ["ratios", "number"], [[[], 0], [[], 5], [[4, 12], 143]]),
    (boards.plain, ["ratios", "board"], [[[], [5]], [[4, 12], [9, 14, 2]], [[4, 12], [3, 11, 2]]]),
    (steps.can, ["ratios", "board"], [[[], [5]], [[4, 12], [0, 0, 0]], [[4, 12], [9, 14, 2]]]),
    (
        steps.stepped,
        ["ratios", "board", "line", "up"],
        [[[4, 12], [9, 14, 2], 0, True], [[4, 12], [9, 14, 2], 1, True], [[4, 12], [9, 14, 2], 1, False]],
    ),
    (steps.raisings, ["ratios", "board"], [[[], [5]], [[4, 12], [9, 14, 2]], [[4, 12], [3, 11, 2]]]),
    (ways.net, ["ratios", "one", "other"], TWO_OF_ONE_WORTH),
    (ways.fewest, ["ratios", "one", "other"], TWO_OF_ONE_WORTH),
    (ways.way, ["ratios", "one", "other"], TWO_OF_ONE_WORTH),
    (reckoning.added, ["ratios", "one", "other"], TWO_BOARDS),
    (reckoning.less, ["ratios", "one", "other"], TWO_BOARDS),
    (reckoning.times, ["ratios", "board", "number"], [[[], [5], 1], [[4, 12], [3, 11, 2], 0], [[4, 12], [3, 11, 2], 1]]),
    (reckoning.parted, ["ratios", "board", "number"], [[[], [5], 1], [[4, 12], [3, 11, 2], 1], [[4, 12], [9, 14, 2], 5]]),
    (notes.shown, ["ratios", "board"], [[[], [5]], [[4, 12], [9, 14, 2]]]),
    (notes.read, ["ratios", "text"], [[[], "5"], [[4, 12], "2|14|9"]]),
]

# What is refused behind NoFrame and NoBoard, by the argument's name.
WRONG_BEHIND = {"number": [-1, 0], "line": [-1, 2, 12], "text": ["", "x", "0|0|0|0"]}


def all_calls():
    return [(called, handed) for called, names, samples in CALLS for handed in samples]


def lists_told(told):
    """The lists that a call told: the value itself, or those within a tuple."""
    if isinstance(told, tuple):
        return [part for part in told if isinstance(part, list)]
    return [told] if isinstance(told, list) else []


def board_names(names):
    """Those of the arguments' names under which boards are handed in."""
    return [name for name in names if name in ("board", "one", "other")]


def with_argument(names, handed, name, value):
    """The arguments with another one under this name."""
    return [value if each == name else argument for each, argument in zip(names, handed)]


def with_wrong_behind(names, handed):
    """The arguments as they are, and with each that would be refused behind NoFrame and NoBoard."""
    told = [handed]
    for name, values in WRONG_BEHIND.items():
        if name in names:
            told += [with_argument(names, handed, name, value) for value in values]
    return told


class Interface(unittest.TestCase):
    def test_arguments(self):
        for called, names, samples in CALLS:
            parameters = inspect.signature(called).parameters
            self.assertEqual(list(parameters), names, called.__name__)

    def test_arguments_may_be_handed_in_by_name(self):
        for called, names, samples in CALLS:
            for handed in samples:
                self.assertEqual(called(**dict(zip(names, handed))), called(*handed))


class RefusedFirst(BoardCase):
    def test_bad_ratios_by_every_function(self):
        for called, names, samples in CALLS:
            for handed in samples:
                for wrong in with_wrong_behind(names, handed):
                    for ratios in bad_frames():
                        self.assert_refused(NoFrame, called, *with_argument(names, wrong, "ratios", ratios))

    def test_bad_boards_by_every_function_that_takes_boards(self):
        for called, names, samples in CALLS:
            for handed in samples:
                for wrong in with_wrong_behind(names, handed):
                    for name in board_names(names):
                        for board in bad_boards(handed[0]):
                            self.assert_refused(NoBoard, called, *with_argument(names, wrong, name, board))

    def test_bad_ratios_ahead_of_bad_boards(self):
        for called, names, samples in CALLS:
            for name in board_names(names):
                for ratios in bad_frames():
                    for board in bad_boards(ratios)[:6]:
                        handed = with_argument(names, samples[0], "ratios", ratios)
                        self.assert_refused(NoFrame, called, *with_argument(names, handed, name, board))


class NothingChangedOrKept(unittest.TestCase):
    def test_what_is_handed_in_stays_as_it_was(self):
        for called, handed in all_calls():
            before = copy.deepcopy(handed)
            called(*handed)
            self.assertEqual(handed, before, called.__name__)

    def test_what_is_handed_in_stays_as_it_was_when_it_is_refused(self):
        for called, names, samples in CALLS:
            self.assert_unchanged_when_refused(called, with_argument(names, samples[-1], "ratios", [4, 13]))
            for name in board_names(names):
                self.assert_unchanged_when_refused(called, with_argument(names, samples[-1], name, [9, 14, -2]))
        for handed in ([[4, 12], [3, 0, 0], 0, True], [[4, 12], [3, 0, 0], 0, False], [[4, 12], [9, 14, 2], 2, True]):
            self.assert_unchanged_when_refused(steps.stepped, handed)
        for called in (ways.net, ways.fewest, ways.way, reckoning.less):
            self.assert_unchanged_when_refused(called, [[4, 12], [9, 14, 2], [9, 14, 3]])
        self.assert_unchanged_when_refused(ways.way, [[4, 12], [8004, 0, 0], [0, 2001, 0]])
        for called in (reckoning.times, reckoning.parted):
            self.assert_unchanged_when_refused(called, [[4, 12], [9, 14, 2], -1])
        self.assert_unchanged_when_refused(notes.read, [[4, 12], "2|14|09"])

    def assert_unchanged_when_refused(self, called, handed):
        before = copy.deepcopy(handed)
        self.assertRaises(ValueError, called, *handed)
        self.assertEqual(handed, before, called.__name__)

    def test_changing_what_was_told_changes_nothing_told_later(self):
        for called, handed in all_calls():
            told = called(*handed)
            first = copy.deepcopy(told)
            for each in lists_told(told):
                each.append("more")
                each[0] = "other"
            self.assertEqual(called(*handed), first, called.__name__)

    def test_a_told_list_is_a_new_one(self):
        for called, handed in all_calls():
            told = lists_told(called(*handed))
            again = lists_told(called(*handed))
            self.assertEqual(len(told), len(again))
            for each in told:
                self.assertFalse(any(each is argument for argument in handed + again), called.__name__)

    def test_changing_what_was_handed_in_changes_nothing_that_was_told(self):
        for called, handed in all_calls():
            given = copy.deepcopy(handed)
            told = called(*given)
            first = copy.deepcopy(told)
            for argument in given:
                if isinstance(argument, list):
                    argument.append(2)
                    argument[0] = 3
            self.assertEqual(told, first, called.__name__)
            self.assertEqual(called(*handed), first, called.__name__)


if __name__ == "__main__":
    unittest.main()
