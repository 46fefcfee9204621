"""Points 7 and 8: nets, and shortest rows of steps."""

import unittest

from countboard.errors import NoBoard, NoFrame, NoWay, TooLong
from countboard.ways import fewest, net, way
from tests.helpers import (
    FRAMES,
    GREAT,
    SMALL_FRAMES,
    BoardCase,
    all_boards,
    bad_boards,
    bad_frames,
    board_pairs_of_unlike_worths,
    boards_by_worth,
    worth_by_hand,
)

ALL = (net, fewest, way)


def steps_from(ratios, board):
    """All steps that can be done on a board, each with the board behind it, told without the program."""
    told = []
    for line, ratio in enumerate(ratios):
        if board[line] >= ratio:
            told.append(((line, True), moved(board, line, -ratio, 1)))
        if board[line + 1] >= 1:
            told.append(((line, False), moved(board, line, ratio, -1)))
    return told


def moved(board, line, here, above):
    """The board with so many more counters on the line and on the next one."""
    told = list(board)
    told[line] += here
    told[line + 1] += above
    return tuple(told)


def found_from(ratios, one):
    """By trying all steps: each board that can be come to, with the fewest steps and the nets on the way there."""
    start = tuple(one)
    found = {start: (0, [0] * len(ratios))}
    ends = [start]
    for now in ends:
        length, nets = found[now]
        for (line, up), behind in steps_from(ratios, now):
            if behind not in found:
                more = list(nets)
                more[line] += 1 if up else -1
                found[behind] = (length + 1, more)
                ends.append(behind)
    return found


def with_nets(ratios, nets, spare):
    """Two boards with these nets between them, and on each line so many counters more than are needed."""
    came = [0] + nets
    gone = [often * ratio for often, ratio in zip(nets, ratios)] + [0]
    changes = [c - g for c, g in zip(came, gone)]
    one = [spare + max(-change, 0) for change in changes]
    return one, [counters + change for counters, change in zip(one, changes)]


def some_nets(ratios, size):
    """Nets of a frame of about this size: all above, all below, none, by turns, and one line alone."""
    lines = len(ratios)
    told = [[size] * lines, [-size] * lines, [0] * lines]
    told.append([size + line if line % 2 else -size - line for line in range(lines)])
    told.append([-size if line % 2 else size for line in range(lines)])
    told.append([(size, 0, -size)[line % 3] for line in range(lines)])
    for line in range(lines):
        told.append([0] * line + [size] + [0] * (lines - line - 1))
        told.append([0] * line + [-size] + [0] * (lines - line - 1))
    return told


class WayCase(BoardCase):
    def assert_way(self, ratios, one, other, nets):
        """The way leads there by steps that can be done, just those that the nets tell."""
        row = way(ratios, one, other)
        self.assertIs(type(row), list)
        now = tuple(one)
        for step in row:
            self.assertIs(type(step), tuple)
            self.assertEqual([type(part) for part in step], [int, bool])
            able = dict(steps_from(ratios, now))
            self.assertIn(step, able, (ratios, one, other, now))
            now = able[step]
        self.assertEqual(list(now), other)
        for line, often in enumerate(nets):
            self.assertEqual(row.count((line, True)), max(often, 0))
            self.assertEqual(row.count((line, False)), max(-often, 0))
        self.assertEqual(len(row), sum(abs(often) for often in nets))


class Net(BoardCase):
    def test_samples(self):
        self.assertEqual(net([], [9], [9]), [])
        self.assertEqual(net([3], [3, 0], [0, 1]), [1])
        self.assertEqual(net([3], [0, 1], [3, 0]), [-1])
        self.assertEqual(net([3], [4, 5], [4, 5]), [0])
        self.assertEqual(net([4, 12], [143, 0, 0], [3, 11, 2]), [35, 2])
        self.assertEqual(net([4, 12], [3, 11, 2], [143, 0, 0]), [-35, -2])
        self.assertEqual(net([2, 3, 2], [2, 0, 0, 1], [0, 1, 2, 0]), [1, 0, -1])
        self.assertEqual(net([2, 3], [0, 3, 0], [2, 2, 0]), [-1, 0])
        self.assertEqual(net([2, 3], [2, 2, 0], [0, 0, 1]), [1, 1])
        self.assertEqual(net([2, 3], [0, 0, 1], [2, 2, 0]), [-1, -1])

    def test_it_tells_a_list_of_whole_numbers(self):
        told = net([4, 12], [143, 0, 0], [3, 11, 2])
        self.assertIs(type(told), list)
        self.assertEqual([type(often) for often in told], [int, int])

    def test_the_other_way_about_has_the_other_sign(self):
        for ratios in FRAMES:
            for nets in some_nets(ratios, 7) + some_nets(ratios, GREAT):
                one, other = with_nets(ratios, nets, 1)
                self.assertEqual(net(ratios, one, other), nets)
                self.assertEqual(net(ratios, other, one), [-often for often in nets])

    def test_counters_of_any_size(self):
        for ratios in FRAMES:
            for size in (1, 2001, 10**30, GREAT):
                for spare in (0, 5, GREAT):
                    for nets in some_nets(ratios, size):
                        self.assertEqual(net(ratios, *with_nets(ratios, nets, spare)), nets)

    def test_a_board_and_itself(self):
        for ratios in FRAMES:
            for counters in (0, 1, 13, GREAT):
                board = [counters] * (len(ratios) + 1)
                self.assertEqual(net(ratios, board, list(board)), [0] * len(ratios))
                self.assertEqual(net(ratios, board, board), [0] * len(ratios))


class Fewest(BoardCase):
    def test_samples(self):
        self.assertEqual(fewest([], [9], [9]), 0)
        self.assertEqual(fewest([3], [3, 0], [0, 1]), 1)
        self.assertEqual(fewest([3], [0, 1], [3, 0]), 1)
        self.assertEqual(fewest([4, 12], [143, 0, 0], [3, 11, 2]), 37)
        self.assertEqual(fewest([4, 12], [3, 11, 2], [143, 0, 0]), 37)
        self.assertEqual(fewest([2, 3, 2], [2, 0, 0, 1], [0, 1, 2, 0]), 2)

    def test_it_is_the_nets_sum_without_signs_of_any_size(self):
        for ratios in FRAMES:
            for size in (1, 2001, GREAT):
                for nets in some_nets(ratios, size):
                    one, other = with_nets(ratios, nets, 1)
                    length = sum(abs(often) for often in nets)
                    self.assertIs(type(fewest(ratios, one, other)), int)
                    self.assertEqual(fewest(ratios, one, other), length)
                    self.assertEqual(fewest(ratios, other, one), length)

    def test_a_board_and_itself(self):
        for ratios in FRAMES:
            for counters in (0, 1, 13, GREAT):
                board = [counters] * (len(ratios) + 1)
                self.assertEqual(fewest(ratios, board, board), 0)


class ByTryingAllSteps(WayCase):
    def test_every_two_boards_of_one_worth(self):
        for ratios in SMALL_FRAMES:
            for group in boards_by_worth(ratios, 3):
                for one in group:
                    found = found_from(ratios, one)
                    for other in group:
                        length, nets = found[tuple(other)]
                        self.assertEqual(net(ratios, one, other), nets)
                        self.assertEqual(fewest(ratios, one, other), length)
                        self.assert_way(ratios, one, other, nets)

    def test_every_board_that_can_be_come_to_from_one_counter(self):
        for ratios in SMALL_FRAMES:
            one = [0] * len(ratios) + [1]
            for other, (length, nets) in found_from(ratios, one).items():
                self.assertEqual(fewest(ratios, one, list(other)), length)
                self.assert_way(ratios, one, list(other), nets)
                self.assert_way(ratios, list(other), one, [-often for often in nets])


class Way(WayCase):
    def test_the_only_row_there_is(self):
        self.assertEqual(way([3], [3, 0], [0, 1]), [(0, True)])
        self.assertEqual(way([3], [0, 1], [3, 0]), [(0, False)])
        self.assertEqual(way([3], [7, 0], [1, 2]), [(0, True), (0, True)])

    def test_an_upper_line_gets_its_counters_from_below_first(self):
        self.assertEqual(way([2, 2], [2, 1, 0], [0, 0, 1]), [(0, True), (1, True)])
        self.assert_way([2, 3, 2], [12, 0, 0, 0], [0, 0, 0, 1], [6, 2, 1])

    def test_a_lower_line_gets_its_counters_from_above_first(self):
        self.assertEqual(way([2, 2], [0, 0, 1], [2, 1, 0]), [(1, False), (0, False)])
        self.assert_way([2, 3, 2], [0, 0, 0, 1], [12, 0, 0, 0], [-6, -2, -1])

    def test_one_line_is_raised_and_another_one_lowered(self):
        self.assert_way([2, 3, 2], [2, 0, 0, 1], [0, 1, 2, 0], [1, 0, -1])
        self.assert_way([2, 3], [2, 0, 1], [0, 4, 0], [1, -1])
        self.assert_way([2, 3], [0, 4, 0], [2, 0, 1], [-1, 1])

    def test_nets_of_all_signs(self):
        for ratios in FRAMES:
            for size in (1, 3):
                for spare in (0, 1, GREAT):
                    for nets in some_nets(ratios, size):
                        one, other = with_nets(ratios, nets, spare)
                        self.assert_way(ratios, one, other, nets)

    def test_a_board_and_itself(self):
        for ratios in FRAMES:
            for counters in (0, 1, 13, GREAT):
                board = [counters] * (len(ratios) + 1)
                self.assertEqual(way(ratios, board, board), [])
                self.assertEqual(way(ratios, board, list(board)), [])


class TooLongWays(WayCase):
    def test_just_2000_steps_are_told(self):
        self.assert_way([2], [4000, 0], [0, 2000], [2000])
        self.assert_way([2], [0, 2000], [4000, 0], [-2000])
        self.assert_way([12], [GREAT + 24000, GREAT], [GREAT, GREAT + 2000], [2000])
        self.assert_way([2, 3, 2], [2000, 0, 0, 1000], [0, 1000, 2000, 0], [1000, 0, -1000])
        for nets in ([2000, 0, 0], [0, 0, -2000], [1999, -1, 0], [-1, 1998, 1], [667, -667, 666]):
            self.assert_way([3, 2, 4], *with_nets([3, 2, 4], nets, 0), nets)

    def test_2001_steps_and_more_are_refused_but_their_nets_told(self):
        lengthened = [[2001, 0, 0], [0, 0, -2001], [2000, -1, 0], [-1, 1999, 1], [667, -667, 667]]
        lengthened += [[1001, 0, -1000], [-1000, 0, 1001], [2002, 0, 0], [GREAT, -GREAT, GREAT]]
        for nets in lengthened:
            for spare in (0, 1, GREAT):
                one, other = with_nets([3, 2, 4], nets, spare)
                for first, second, sign in ((one, other, 1), (other, one, -1)):
                    self.assert_refused(TooLong, way, [3, 2, 4], first, second)
                    self.assertEqual(net([3, 2, 4], first, second), [sign * often for often in nets])
                    self.assertEqual(fewest([3, 2, 4], first, second), sum(abs(often) for often in nets))

    def test_very_great_counters_are_refused_soon(self):
        for ratios in FRAMES:
            if ratios:
                for nets in some_nets(ratios, GREAT):
                    if any(nets):
                        self.assert_refused(TooLong, way, ratios, *with_nets(ratios, nets, GREAT))

    def test_it_comes_behind_no_way(self):
        for ratios in FRAMES:
            if ratios:
                one, other = with_nets(ratios, [3000] * len(ratios), 1)
                self.assert_refused(TooLong, way, ratios, one, other)
                other[0] += 1
                self.assert_refused(NoWay, way, ratios, one, other)
                self.assert_refused(NoWay, way, ratios, other, one)


class Refused(BoardCase):
    def test_unlike_worths(self):
        for ratios in FRAMES:
            for one, other in board_pairs_of_unlike_worths(ratios):
                for called in ALL:
                    self.assert_refused(NoWay, called, ratios, one, other)

    def test_unlike_worths_of_all_small_boards(self):
        for ratios in ([], [2], [3], [2, 3]):
            for one in all_boards(ratios, 3):
                for other in all_boards(ratios, 3):
                    if worth_by_hand(ratios, one) != worth_by_hand(ratios, other):
                        for called in ALL:
                            self.assert_refused(NoWay, called, ratios, one, other)

    def test_unlike_worths_with_the_same_counters_in_all(self):
        for called in ALL:
            self.assert_refused(NoWay, called, [3], [1, 0], [0, 1])
            self.assert_refused(NoWay, called, [3, 2], [0, 1, 0], [0, 0, 1])
            self.assert_refused(NoWay, called, [3, 2], [6, 0, 0], [0, 0, 2])

    def test_bad_boards_come_ahead_of_no_way(self):
        for ratios in FRAMES:
            for board in bad_boards(ratios):
                for good in ([0] * (len(ratios) + 1), [5] * (len(ratios) + 1)):
                    for called in ALL:
                        self.assert_refused(NoBoard, called, ratios, board, good)
                        self.assert_refused(NoBoard, called, ratios, good, board)
                        self.assert_refused(NoBoard, called, ratios, board, board)

    def test_bad_boards_of_the_same_sum_of_worths(self):
        for called in ALL:
            self.assert_refused(NoBoard, called, [3], [-3, 2], [3, 0])
            self.assert_refused(NoBoard, called, [3], [3, 0], [-3, 2])
            self.assert_refused(NoBoard, called, [3], [3, 0], [3, 0, 0])
            self.assert_refused(NoBoard, called, [3], [3, 0, 0], [3, 0])
            self.assert_refused(NoBoard, called, [3], [3], [3, 0])

    def test_bad_frames_come_ahead_of_all(self):
        for ratios in bad_frames():
            good = [4] * (len(ratios) + 1)
            for board in [good, [5] * (len(ratios) + 1)] + bad_boards(ratios)[:5]:
                for called in ALL:
                    self.assert_refused(NoFrame, called, ratios, board, good)
                    self.assert_refused(NoFrame, called, ratios, good, board)


if __name__ == "__main__":
    unittest.main()
