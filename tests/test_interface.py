"""Point 1 and the interface: names, arguments, and that nothing handed in is changed or kept."""

import copy
import inspect
import unittest

from countboard import boards, steps

# Each function with its arguments' names and some arguments to hand in.
CALLS = [
    (boards.worths, ["ratios"], [[[]], [[4, 12]]]),
    (boards.worth, ["ratios", "board"], [[[], [5]], [[4, 12], [9, 14, 2]]]),
    (boards.is_plain, ["ratios", "board"], [[[], [5]], [[4, 12], [9, 14, 2]], [[4, 12], [3, 11, 2]]]),
    (boards.board_of, ["ratios", "number"], [[[], 0], [[], 5], [[4, 12], 143]]),
    (boards.plain, ["ratios", "board"], [[[], [5]], [[4, 12], [9, 14, 2]], [[4, 12], [3, 11, 2]]]),
    (steps.can, ["ratios", "board"], [[[], [5]], [[4, 12], [0, 0, 0]], [[4, 12], [9, 14, 2]]]),
    (
        steps.stepped,
        ["ratios", "board", "line", "up"],
        [[[4, 12], [9, 14, 2], 0, True], [[4, 12], [9, 14, 2], 1, True], [[4, 12], [9, 14, 2], 1, False]],
    ),
    (steps.raisings, ["ratios", "board"], [[[], [5]], [[4, 12], [9, 14, 2]], [[4, 12], [3, 11, 2]]]),
]


def all_calls():
    return [(called, handed) for called, names, samples in CALLS for handed in samples]


class Interface(unittest.TestCase):
    def test_arguments(self):
        for called, names, samples in CALLS:
            parameters = inspect.signature(called).parameters
            self.assertEqual(list(parameters), names, called.__name__)

    def test_arguments_may_be_handed_in_by_name(self):
        for called, names, samples in CALLS:
            for handed in samples:
                self.assertEqual(called(**dict(zip(names, handed))), called(*handed))


class NothingChangedOrKept(unittest.TestCase):
    def test_what_is_handed_in_stays_as_it_was(self):
        for called, handed in all_calls():
            before = copy.deepcopy(handed)
            called(*handed)
            self.assertEqual(handed, before, called.__name__)

    def test_what_is_handed_in_stays_as_it_was_when_it_is_refused(self):
        for handed in ([[4, 12], [9, 14, -2]], [[4, 13], [9, 14, 2]]):
            for called in (boards.worth, boards.is_plain, boards.plain, steps.can, steps.raisings):
                before = copy.deepcopy(handed)
                self.assertRaises(ValueError, called, *handed)
                self.assertEqual(handed, before, called.__name__)
        for handed in ([[4, 12], [3, 0, 0], 0, True], [[4, 12], [3, 0, 0], 0, False], [[4, 12], [9, 14, 2], 2, True]):
            before = copy.deepcopy(handed)
            self.assertRaises(ValueError, steps.stepped, *handed)
            self.assertEqual(handed, before)

    def test_changing_what_was_told_changes_nothing_told_later(self):
        for called, handed in all_calls():
            told = called(*handed)
            if isinstance(told, list):
                first = list(told)
                told.append("more")
                told[0] = "other"
                self.assertEqual(called(*handed), first, called.__name__)

    def test_a_told_list_is_a_new_one(self):
        for called, handed in all_calls():
            told = called(*handed)
            if isinstance(told, list):
                self.assertIsNot(called(*handed), told)
                self.assertFalse(any(told is argument for argument in handed), called.__name__)

    def test_changing_what_was_handed_in_changes_nothing_that_was_told(self):
        for called, handed in all_calls():
            given = copy.deepcopy(handed)
            told = called(*given)
            first = copy.deepcopy(told)
            for argument in given:
                if isinstance(argument, list):
                    argument.append(2)
                    argument[0] = 3
            self.assertEqual(told, first, called.__name__)
            self.assertEqual(called(*handed), first, called.__name__)


if __name__ == "__main__":
    unittest.main()
