"""Points 2, 3 and 4: frames, boards, worths and plain boards."""

import unittest

from countboard.boards import board_of, is_plain, plain, worth, worths
from countboard.errors import NoBoard, NoFrame, NoNumber
from tests.helpers import FRAMES, GREAT, SMALL_FRAMES, BoardCase, all_boards, bad_boards, bad_frames, worth_by_hand


class Worths(BoardCase):
    def test_no_ratio(self):
        self.assertEqual(worths([]), [1])

    def test_one_ratio(self):
        for ratio in range(2, 13):
            self.assertEqual(worths([ratio]), [1, ratio])

    def test_eleven_ratios(self):
        self.assertEqual(worths([2] * 11), [1, 2, 4, 8, 16, 32, 64, 128, 256, 512, 1024, 2048])
        self.assertEqual(worths([12] * 11), [12**line for line in range(12)])

    def test_unlike_ratios_keep_their_order(self):
        self.assertEqual(worths([4, 12, 10]), [1, 4, 48, 480])
        self.assertEqual(worths([10, 12, 4]), [1, 10, 120, 480])
        self.assertEqual(worths([2, 3, 4, 5, 6, 7, 8, 9, 10, 11, 12])[-1], 479001600)

    def test_each_next_worth_is_the_one_beneath_times_the_ratio_there(self):
        for ratios in FRAMES:
            told = worths(ratios)
            self.assertEqual(len(told), len(ratios) + 1)
            self.assertEqual(told[0], 1)
            for line, ratio in enumerate(ratios):
                self.assertEqual(told[line + 1], told[line] * ratio)


class NoFrames(BoardCase):
    def test_bad_frames_are_refused(self):
        for ratios in bad_frames():
            with self.subTest(ratios=ratios):
                board = [0] * (len(ratios) + 1)
                self.assert_refused(NoFrame, worths, ratios)
                self.assert_refused(NoFrame, worth, ratios, board)
                self.assert_refused(NoFrame, is_plain, ratios, board)
                self.assert_refused(NoFrame, plain, ratios, board)
                self.assert_refused(NoFrame, board_of, ratios, 5)

    def test_no_frame_comes_ahead_of_no_board(self):
        for ratios in bad_frames():
            for board in bad_boards(ratios):
                for called in (worth, is_plain, plain):
                    self.assert_refused(NoFrame, called, ratios, board)

    def test_no_frame_comes_ahead_of_no_number(self):
        for ratios in bad_frames():
            for number in (-1, -GREAT):
                self.assert_refused(NoFrame, board_of, ratios, number)


class NoBoards(BoardCase):
    def test_bad_boards_are_refused(self):
        for ratios in FRAMES:
            for board in bad_boards(ratios):
                for called in (worth, is_plain, plain):
                    self.assert_refused(NoBoard, called, ratios, board)

    def test_a_worth_of_nought_or_more_makes_no_board_of_counters_below_nought(self):
        self.assert_refused(NoBoard, worth, [3, 4], [-3, 1, 0])
        self.assert_refused(NoBoard, plain, [3, 4], [13, -1, 0])
        self.assert_refused(NoBoard, is_plain, [3, 4], [0, 0, -1])


class Worth(BoardCase):
    def test_samples(self):
        self.assertEqual(worth([], [0]), 0)
        self.assertEqual(worth([], [7]), 7)
        self.assertEqual(worth([4, 12], [3, 11, 2]), 3 + 44 + 96)
        self.assertEqual(worth([12, 4], [3, 11, 2]), 3 + 132 + 96)
        self.assertEqual(worth([2] * 11, [1] * 12), 4095)

    def test_an_empty_board_is_worth_nought(self):
        for ratios in FRAMES:
            self.assertEqual(worth(ratios, [0] * (len(ratios) + 1)), 0)

    def test_counters_of_any_size(self):
        for ratios in FRAMES:
            lines = len(ratios) + 1
            for board in ([GREAT] * lines, [GREAT + line for line in range(lines)], [13 * line for line in range(lines)]):
                self.assertEqual(worth(ratios, board), worth_by_hand(ratios, board))

    def test_one_counter_is_worth_what_its_line_is(self):
        for ratios in FRAMES:
            for line, each in enumerate(worths(ratios)):
                board = [0] * (len(ratios) + 1)
                board[line] = 1
                self.assertEqual(worth(ratios, board), each)


class IsPlain(BoardCase):
    def test_one_fewer_than_the_ratio_on_each_line_is_plain(self):
        for ratios in FRAMES:
            self.assertIs(is_plain(ratios, [ratio - 1 for ratio in ratios] + [0]), True)
            self.assertIs(is_plain(ratios, [0] * (len(ratios) + 1)), True)

    def test_as_many_as_the_ratio_on_any_line_is_not_plain(self):
        for ratios in FRAMES:
            for line, ratio in enumerate(ratios):
                for counters in (ratio, ratio + 1, GREAT):
                    board = [0] * (len(ratios) + 1)
                    board[line] = counters
                    self.assertIs(is_plain(ratios, board), False)

    def test_the_last_line_may_have_any_number(self):
        for ratios in FRAMES:
            for counters in (1, 2, 12, 13, 1000, GREAT):
                self.assertIs(is_plain(ratios, [0] * len(ratios) + [counters]), True)
                self.assertIs(is_plain(ratios, [ratio - 1 for ratio in ratios] + [counters]), True)


class BoardOf(BoardCase):
    def test_samples(self):
        self.assertEqual(board_of([], 0), [0])
        self.assertEqual(board_of([], 99), [99])
        self.assertEqual(board_of([4, 12], 0), [0, 0, 0])
        self.assertEqual(board_of([4, 12], 143), [3, 11, 2])
        self.assertEqual(board_of([4, 12], 144), [0, 0, 3])
        self.assertEqual(board_of([2] * 11, 4095), [1] * 12)

    def test_small_and_very_great_numbers(self):
        numbers = list(range(60)) + [10**9, 12**11 - 1, 12**11, 12**11 + 1, GREAT - 1, GREAT]
        for ratios in FRAMES:
            for number in numbers:
                self.assert_is_the_plain_board(ratios, board_of(ratios, number), number)

    def test_a_number_below_nought_is_refused(self):
        for ratios in FRAMES:
            for number in (-1, -2, -12, -GREAT):
                self.assert_refused(NoNumber, board_of, ratios, number)

    def test_there_is_just_one_plain_board_of_each_worth(self):
        for ratios in SMALL_FRAMES:
            by_worth = {}
            for board in all_boards(ratios, 5):
                if is_plain(ratios, board):
                    self.assertNotIn(worth(ratios, board), by_worth)
                    by_worth[worth(ratios, board)] = board
            for number, board in by_worth.items():
                self.assertEqual(board_of(ratios, number), board)

    def assert_is_the_plain_board(self, ratios, board, number):
        self.assertIs(type(board), list)
        self.assertEqual(len(board), len(ratios) + 1)
        self.assertEqual(worth_by_hand(ratios, board), number)
        self.assertTrue(all(counters >= 0 for counters in board))
        self.assertTrue(all(counters < ratio for counters, ratio in zip(board, ratios)))


class Plain(BoardCase):
    def test_samples(self):
        self.assertEqual(plain([], [5]), [5])
        self.assertEqual(plain([4, 12], [143, 0, 0]), [3, 11, 2])
        self.assertEqual(plain([4, 12], [4, 11, 0]), [0, 0, 1])
        self.assertEqual(plain([4, 12], [3, 11, 2]), [3, 11, 2])
        self.assertEqual(plain([2, 3], [2, 3, 0]), [0, 1, 1])

    def test_it_has_the_same_worth_and_is_plain(self):
        for ratios in FRAMES:
            lines = len(ratios) + 1
            for board in ([GREAT] * lines, [12] * lines, list(range(lines)), [0] * lines):
                told = plain(ratios, board)
                self.assertEqual(worth_by_hand(ratios, told), worth_by_hand(ratios, board))
                self.assertTrue(is_plain(ratios, told))

    def test_it_has_the_fewest_counters_of_all_boards_of_its_worth(self):
        for ratios in SMALL_FRAMES:
            for board in all_boards(ratios, 5):
                told = plain(ratios, board)
                self.assertEqual(told, board_of(ratios, worth_by_hand(ratios, board)))
                self.assertLessEqual(sum(told), sum(board))
                self.assertEqual(sum(told) == sum(board), told == board)


if __name__ == "__main__":
    unittest.main()
