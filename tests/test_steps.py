"""Points 5 and 6: steps, and raising on the way to the plain board."""

import unittest

from countboard.boards import plain, worth
from countboard.errors import NoBoard, NoFrame, NoStep
from countboard.steps import can, raisings, stepped
from tests.helpers import FRAMES, GREAT, SMALL_FRAMES, BoardCase, all_boards, bad_boards, bad_frames


def with_counters(ratios, line, counters):
    """A board of the frame with these counters on the line, and none elsewhere."""
    board = [0] * (len(ratios) + 1)
    board[line] = counters
    return board


def no_step_lines(ratios):
    """Lines that are none, and the last one."""
    last = len(ratios)
    return [last, last + 1, last + 2, 1000, GREAT, -1, -2, -last, -last - 1, -last - 2, -1000, -GREAT]


def raised_counts_in_all_orders(ratios, board):
    """All ends of raising in every order: tuples of the board at the end and the raises of each line."""
    start = (tuple(board), (0,) * len(ratios))
    seen = {start}
    open_ends = [start]
    ends = set()
    while open_ends:
        now, counts = open_ends.pop()
        lines = [line for line, ratio in enumerate(ratios) if now[line] >= ratio]
        if not lines:
            ends.add((now, counts))
        for line in lines:
            after = list(now)
            after[line] -= ratios[line]
            after[line + 1] += 1
            more = list(counts)
            more[line] += 1
            state = (tuple(after), tuple(more))
            if state not in seen:
                seen.add(state)
                open_ends.append(state)
    return ends


class Can(BoardCase):
    def test_samples(self):
        self.assertEqual(can([], [9]), [])
        self.assertEqual(can([3], [0, 0]), [])
        self.assertEqual(can([3], [3, 0]), [(0, True)])
        self.assertEqual(can([3], [2, 1]), [(0, False)])
        self.assertEqual(can([3], [3, 1]), [(0, True), (0, False)])
        self.assertEqual(
            can([2, 3, 4], [2, 3, 4, 1]),
            [(0, True), (0, False), (1, True), (1, False), (2, True), (2, False)],
        )
        self.assertEqual(can([2, 3, 4], [1, 3, 0, 1]), [(0, False), (1, True), (2, False)])

    def test_just_enough_counters_and_one_too_few(self):
        for ratios in FRAMES:
            for line, ratio in enumerate(ratios):
                self.assertIn((line, True), can(ratios, with_counters(ratios, line, ratio)))
                self.assertIn((line, True), can(ratios, with_counters(ratios, line, GREAT)))
                self.assertNotIn((line, True), can(ratios, with_counters(ratios, line, ratio - 1)))
                self.assertIn((line, False), can(ratios, with_counters(ratios, line + 1, 1)))
                self.assertNotIn((line, False), can(ratios, with_counters(ratios, line + 1, 0)))

    def test_steps_are_tuples_of_a_number_and_true_or_false(self):
        for step in can([2, 3, 4], [9, 9, 9, 9]):
            self.assertIs(type(step), tuple)
            self.assertEqual([type(part) for part in step], [int, bool])

    def test_it_tells_just_the_steps_that_are_not_refused(self):
        for ratios in SMALL_FRAMES:
            for board in all_boards(ratios, 4):
                self.assertEqual(can(ratios, board), self.steps_not_refused(ratios, board))

    def steps_not_refused(self, ratios, board):
        told = []
        for line in range(-2, len(ratios) + 3):
            for up in (True, False):
                try:
                    stepped(ratios, board, line, up)
                except NoStep:
                    continue
                told.append((line, up))
        return told


class Stepped(BoardCase):
    def test_samples(self):
        self.assertEqual(stepped([3], [3, 0], 0, True), [0, 1])
        self.assertEqual(stepped([3], [0, 1], 0, False), [3, 0])
        self.assertEqual(stepped([2, 5, 4], [1, 7, 0, 2], 1, True), [1, 2, 1, 2])
        self.assertEqual(stepped([2, 5, 4], [1, 7, 0, 2], 0, False), [3, 6, 0, 2])
        self.assertEqual(stepped([2, 5, 4], [1, 7, 0, 2], 2, False), [1, 7, 4, 1])

    def test_raising_with_just_enough_counters_and_one_too_few(self):
        for ratios in FRAMES:
            for line, ratio in enumerate(ratios):
                enough = with_counters(ratios, line, ratio)
                self.assertEqual(stepped(ratios, enough, line, True), with_counters(ratios, line + 1, 1))
                self.assert_refused(NoStep, stepped, ratios, with_counters(ratios, line, ratio - 1), line, True)
                self.assert_refused(NoStep, stepped, ratios, with_counters(ratios, line + 1, 12), line, True)

    def test_lowering_with_just_enough_counters_and_one_too_few(self):
        for ratios in FRAMES:
            for line, ratio in enumerate(ratios):
                enough = with_counters(ratios, line + 1, 1)
                self.assertEqual(stepped(ratios, enough, line, False), with_counters(ratios, line, ratio))
                self.assert_refused(NoStep, stepped, ratios, with_counters(ratios, line, 12), line, False)

    def test_lines_that_are_none_and_the_last_one_are_refused(self):
        for ratios in FRAMES:
            for line in no_step_lines(ratios):
                for up in (True, False):
                    self.assert_refused(NoStep, stepped, ratios, [20] * (len(ratios) + 1), line, up)

    def test_the_worth_stays_and_the_contrary_leads_back(self):
        boards = [(ratios, board) for ratios in SMALL_FRAMES for board in all_boards(ratios, 4)]
        boards += [(ratios, [GREAT] * (len(ratios) + 1)) for ratios in FRAMES]
        for ratios, board in boards:
            for line, up in can(ratios, board):
                behind = stepped(ratios, board, line, up)
                self.assertNotEqual(behind, board)
                self.assertEqual(worth(ratios, behind), worth(ratios, board))
                self.assertEqual(stepped(ratios, behind, line, not up), board)


class Raisings(BoardCase):
    def test_samples(self):
        self.assertEqual(raisings([], [9]), [])
        self.assertEqual(raisings([3], [2, 9]), [0])
        self.assertEqual(raisings([3], [3, 0]), [1])
        self.assertEqual(raisings([4, 12], [143, 0, 0]), [35, 2])
        self.assertEqual(raisings([2, 3], [2, 2, 0]), [1, 1])
        self.assertEqual(raisings([2, 3], [1, 2, 5]), [0, 0])

    def test_every_order_of_raising_ends_there(self):
        for ratios in SMALL_FRAMES:
            for board in all_boards(ratios, 5):
                ends = raised_counts_in_all_orders(ratios, board)
                self.assertEqual(ends, {(tuple(plain(ratios, board)), tuple(raisings(ratios, board)))})

    def test_raising_the_lowest_or_the_highest_line_first_by_the_program_itself(self):
        for ratios in FRAMES:
            for board in ([25] * (len(ratios) + 1), [90] + [0] * len(ratios)):
                for place in (0, -1):
                    self.assert_raising_ends_there(ratios, board, place)

    def assert_raising_ends_there(self, ratios, board, place):
        now = list(board)
        counts = [0] * len(ratios)
        lines = [line for line, up in can(ratios, now) if up]
        while lines:
            now = stepped(ratios, now, lines[place], True)
            counts[lines[place]] += 1
            lines = [line for line, up in can(ratios, now) if up]
        self.assertEqual(now, plain(ratios, board))
        self.assertEqual(counts, raisings(ratios, board))

    def test_counters_of_any_size(self):
        for ratios in FRAMES:
            board = [GREAT + line for line in range(len(ratios) + 1)]
            told = raisings(ratios, board)
            came = [0] + told
            gone = [often * ratio for often, ratio in zip(told, ratios)] + [0]
            self.assertEqual([b + c - g for b, c, g in zip(board, came, gone)], plain(ratios, board))


class Refused(BoardCase):
    def test_bad_frames_come_ahead_of_bad_boards_and_steps(self):
        for ratios in bad_frames():
            for board in [[0] * (len(ratios) + 1)] + bad_boards(ratios):
                self.assert_refused(NoFrame, can, ratios, board)
                self.assert_refused(NoFrame, raisings, ratios, board)
                for line in (0, -1, len(ratios), GREAT):
                    self.assert_refused(NoFrame, stepped, ratios, board, line, True)
                    self.assert_refused(NoFrame, stepped, ratios, board, line, False)

    def test_bad_boards_come_ahead_of_bad_steps(self):
        for ratios in FRAMES:
            for board in bad_boards(ratios):
                self.assert_refused(NoBoard, can, ratios, board)
                self.assert_refused(NoBoard, raisings, ratios, board)
                for line in [0] + no_step_lines(ratios):
                    self.assert_refused(NoBoard, stepped, ratios, board, line, True)
                    self.assert_refused(NoBoard, stepped, ratios, board, line, False)


if __name__ == "__main__":
    unittest.main()
