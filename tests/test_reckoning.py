"""Point 9: sums, differences, products and parts, told as plain boards."""

import unittest

from countboard.errors import NoBoard, NoFrame, NoLess, NoNumber
from countboard.reckoning import added, less, parted, times
from tests.helpers import FRAMES, GREAT, SMALL_FRAMES, BoardCase, all_boards, bad_boards, bad_frames, worth_by_hand

OF_TWO_BOARDS = (added, less)
OF_A_NUMBER = (times, parted)


def some_boards(ratios):
    """Boards of a frame: plain ones and others, with no counters, few and very many."""
    lines = len(ratios) + 1
    return [
        [0] * lines,
        [1] + [0] * (lines - 1),
        [0] * (lines - 1) + [1],
        [ratio - 1 for ratio in ratios] + [0],
        [13 + line for line in range(lines)],
        [GREAT] + [0] * (lines - 1),
        [GREAT + line for line in range(lines)],
    ]


class ReckoningCase(BoardCase):
    def assert_plain(self, ratios, board, number):
        """It is the plain board of this worth."""
        self.assertIs(type(board), list)
        self.assertEqual([type(counters) for counters in board], [int] * (len(ratios) + 1))
        self.assertTrue(all(counters >= 0 for counters in board))
        self.assertTrue(all(counters < ratio for counters, ratio in zip(board, ratios)))
        self.assertEqual(worth_by_hand(ratios, board), number)


class Added(ReckoningCase):
    def test_samples(self):
        self.assertEqual(added([], [2], [3]), [5])
        self.assertEqual(added([4, 12], [3, 11, 2], [1, 0, 0]), [0, 0, 3])
        self.assertEqual(added([4, 12], [0, 0, 0], [143, 0, 0]), [3, 11, 2])
        self.assertEqual(added([4, 12], [0, 0, 0], [0, 0, 0]), [0, 0, 0])

    def test_boards_of_all_sizes(self):
        for ratios in FRAMES:
            for one in some_boards(ratios):
                for other in some_boards(ratios):
                    told = added(ratios, one, other)
                    self.assert_plain(ratios, told, worth_by_hand(ratios, one) + worth_by_hand(ratios, other))


class Less(ReckoningCase):
    def test_samples(self):
        self.assertEqual(less([], [5], [3]), [2])
        self.assertEqual(less([4, 12], [0, 0, 3], [1, 0, 0]), [3, 11, 2])
        self.assertEqual(less([4, 12], [143, 0, 0], [0, 0, 0]), [3, 11, 2])
        self.assertEqual(less([4, 12], [143, 0, 0], [3, 11, 2]), [0, 0, 0])

    def test_boards_of_all_sizes(self):
        for ratios in FRAMES:
            for one in some_boards(ratios):
                for other in some_boards(ratios):
                    left = worth_by_hand(ratios, one) - worth_by_hand(ratios, other)
                    if left < 0:
                        self.assert_refused(NoLess, less, ratios, one, other)
                    else:
                        self.assert_plain(ratios, less(ratios, one, other), left)

    def test_all_small_boards(self):
        for ratios in ([], [2], [3], [2, 3]):
            for one in all_boards(ratios, 3):
                for other in all_boards(ratios, 3):
                    left = worth_by_hand(ratios, one) - worth_by_hand(ratios, other)
                    if left < 0:
                        self.assert_refused(NoLess, less, ratios, one, other)
                    else:
                        self.assert_plain(ratios, less(ratios, one, other), left)

    def test_worth_the_same_and_worth_one_more(self):
        for ratios in FRAMES:
            for one in some_boards(ratios):
                other = list(one)
                self.assertEqual(less(ratios, one, other), [0] * (len(ratios) + 1))
                other[0] += 1
                self.assert_refused(NoLess, less, ratios, one, other)
                self.assert_plain(ratios, less(ratios, other, one), 1)


class Times(ReckoningCase):
    def test_samples(self):
        self.assertEqual(times([], [5], 3), [15])
        self.assertEqual(times([4, 12], [1, 1, 1], 3), [3, 3, 3])
        self.assertEqual(times([4, 12], [1, 1, 1], 4), [0, 5, 4])
        self.assertEqual(times([4, 12], [3, 11, 2], 0), [0, 0, 0])
        self.assertEqual(times([4, 12], [143, 0, 0], 1), [3, 11, 2])

    def test_boards_and_numbers_of_all_sizes(self):
        for ratios in FRAMES:
            for board in some_boards(ratios):
                for number in (0, 1, 2, 11, 12, 10**30, GREAT):
                    told = times(ratios, board, number)
                    self.assert_plain(ratios, told, worth_by_hand(ratios, board) * number)

    def test_a_number_below_nought_is_refused(self):
        for ratios in FRAMES:
            for board in some_boards(ratios):
                for number in (-1, -2, -GREAT):
                    self.assert_refused(NoNumber, times, ratios, board, number)


class Parted(ReckoningCase):
    def test_samples(self):
        self.assertEqual(parted([], [17], 5), ([3], 2))
        self.assertEqual(parted([4, 12], [3, 11, 2], 2), ([3, 5, 1], 1))
        self.assertEqual(parted([4, 12], [143, 0, 0], 1), ([3, 11, 2], 0))
        self.assertEqual(parted([4, 12], [3, 11, 2], 143), ([1, 0, 0], 0))
        self.assertEqual(parted([4, 12], [3, 11, 2], 144), ([0, 0, 0], 143))
        self.assertEqual(parted([4, 12], [0, 0, 0], 7), ([0, 0, 0], 0))

    def test_boards_and_numbers_of_all_sizes(self):
        for ratios in FRAMES:
            for board in some_boards(ratios):
                for number in (1, 2, 11, 12, 10**30, GREAT, GREAT**2):
                    self.assert_parted(ratios, board, number)

    def test_all_small_boards(self):
        for ratios in SMALL_FRAMES:
            for board in all_boards(ratios, 2):
                for number in (1, 2, 3, 7):
                    self.assert_parted(ratios, board, number)

    def test_a_number_just_as_great_as_the_worth_and_one_greater(self):
        for ratios in FRAMES:
            for board in some_boards(ratios)[1:]:
                whole = worth_by_hand(ratios, board)
                if whole:
                    self.assertEqual(parted(ratios, board, whole), ([1] + [0] * len(ratios), 0))
                self.assertEqual(parted(ratios, board, whole + 1), ([0] * (len(ratios) + 1), whole))

    def test_nought_and_a_number_below_are_refused(self):
        for ratios in FRAMES:
            for board in some_boards(ratios):
                for number in (0, -1, -2, -GREAT):
                    self.assert_refused(NoNumber, parted, ratios, board, number)

    def assert_parted(self, ratios, board, number):
        told = parted(ratios, board, number)
        self.assertIs(type(told), tuple)
        part, left = told
        self.assertIs(type(left), int)
        self.assertGreaterEqual(left, 0)
        self.assertLess(left, number)
        self.assert_plain(ratios, part, (worth_by_hand(ratios, board) - left) // number)
        self.assertEqual(worth_by_hand(ratios, part) * number + left, worth_by_hand(ratios, board))


class Refused(BoardCase):
    def test_bad_boards_come_ahead_of_no_less(self):
        for ratios in FRAMES:
            for board in bad_boards(ratios):
                for good in ([0] * (len(ratios) + 1), [GREAT] * (len(ratios) + 1)):
                    for called in OF_TWO_BOARDS:
                        self.assert_refused(NoBoard, called, ratios, board, good)
                        self.assert_refused(NoBoard, called, ratios, good, board)
                        self.assert_refused(NoBoard, called, ratios, board, board)

    def test_bad_boards_come_ahead_of_no_number(self):
        for ratios in FRAMES:
            for board in bad_boards(ratios):
                for called in OF_A_NUMBER:
                    for number in (1, 0, -1, -GREAT):
                        self.assert_refused(NoBoard, called, ratios, board, number)

    def test_bad_frames_come_ahead_of_all(self):
        for ratios in bad_frames():
            nought = [0] * (len(ratios) + 1)
            for board in [nought, [5] * (len(ratios) + 1)] + bad_boards(ratios)[:5]:
                for called in OF_TWO_BOARDS:
                    self.assert_refused(NoFrame, called, ratios, nought, board)
                    self.assert_refused(NoFrame, called, ratios, board, nought)
                for called in OF_A_NUMBER:
                    for number in (1, 0, -1):
                        self.assert_refused(NoFrame, called, ratios, board, number)


if __name__ == "__main__":
    unittest.main()
