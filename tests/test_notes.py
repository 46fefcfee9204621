"""Point 10: boards written as texts, and read again."""

import unittest

from countboard.errors import NoBoard, NoFrame, NoNote
from countboard.notes import read, shown
from tests.helpers import FRAMES, SMALL_FRAMES, BoardCase, all_boards, bad_boards, bad_frames

# All signs that a text may have, but the figures, the stroke and what is ruled out.
OTHER_SIGNS = ["\t", "\n"] + [chr(code) for code in range(ord(" "), ord("~") + 1) if chr(code) not in "0123456789|%"]

THIRTY = ["1" + "0" * 29, "9" * 30, "123456789012345678901234567890"]
THIRTY_ONE = ["1" + "0" * 30, "9" * 31, "1234567890123456789012345678901"]


def with_part(ratios, place, part):
    """A text of as many lines as the frame's, with this one at a place, counted from the text's head."""
    parts = ["7"] * (len(ratios) + 1)
    parts[place] = part
    return "|".join(parts)


class NoteCase(BoardCase):
    def assert_no_part(self, part):
        """Nowhere in a note does this stand for a line's counters."""
        for ratios in FRAMES:
            for place in range(len(ratios) + 1):
                self.assert_refused(NoNote, read, ratios, with_part(ratios, place, part))


class Shown(BoardCase):
    def test_samples(self):
        self.assertEqual(shown([4, 12], [12, 0, 1]), "1|0|12")
        self.assertEqual(shown([], [0]), "0")
        self.assertEqual(shown([], [7]), "7")
        self.assertEqual(shown([3], [0, 5]), "5|0")
        self.assertEqual(shown([2] * 11, list(range(12))), "11|10|9|8|7|6|5|4|3|2|1|0")

    def test_it_is_a_text(self):
        self.assertIs(type(shown([4, 12], [12, 0, 1])), str)

    def test_the_board_is_not_made_plain(self):
        self.assertEqual(shown([4, 12], [143, 0, 0]), "0|0|143")

    def test_thirty_figures(self):
        for ratios in FRAMES:
            for place in range(len(ratios) + 1):
                for part in THIRTY:
                    board = [7] * (len(ratios) + 1)
                    board[-1 - place] = int(part)
                    self.assertEqual(shown(ratios, board), with_part(ratios, place, part))

    def test_somewhat_more_figures_are_not_refused(self):
        self.assertEqual(shown([3], [10**30, 10**40]), "1" + "0" * 40 + "|1" + "0" * 30)

    def test_bad_boards(self):
        for ratios in FRAMES:
            for board in bad_boards(ratios):
                self.assert_refused(NoBoard, shown, ratios, board)

    def test_bad_frames_come_ahead_of_bad_boards(self):
        for ratios in bad_frames():
            for board in [[0] * (len(ratios) + 1)] + bad_boards(ratios):
                self.assert_refused(NoFrame, shown, ratios, board)


class Read(BoardCase):
    def test_samples(self):
        self.assertEqual(read([4, 12], "1|0|12"), [12, 0, 1])
        self.assertEqual(read([], "0"), [0])
        self.assertEqual(read([], "7"), [7])
        self.assertEqual(read([3], "5|0"), [0, 5])
        self.assertEqual(read([2] * 11, "11|10|9|8|7|6|5|4|3|2|1|0"), list(range(12)))

    def test_it_is_a_list_of_whole_numbers(self):
        told = read([4, 12], "1|0|12")
        self.assertIs(type(told), list)
        self.assertEqual([type(counters) for counters in told], [int] * 3)

    def test_the_board_is_not_made_plain(self):
        self.assertEqual(read([4, 12], "0|0|143"), [143, 0, 0])

    def test_one_figure_and_thirty_on_each_line(self):
        for ratios in FRAMES:
            for place in range(len(ratios) + 1):
                for part in list("0123456789") + THIRTY + ["10", "100", "909"]:
                    board = [7] * (len(ratios) + 1)
                    board[-1 - place] = int(part)
                    self.assertEqual(read(ratios, with_part(ratios, place, part)), board)

    def test_what_is_shown_is_read_again(self):
        for ratios in SMALL_FRAMES:
            for board in all_boards(ratios, 3):
                self.assertEqual(read(ratios, shown(ratios, board)), board)
        for ratios in FRAMES:
            lines = len(ratios) + 1
            for board in ([0] * lines, [10**30 - 1] * lines, [10 ** (2 * line) + line for line in range(lines)]):
                self.assertEqual(read(ratios, shown(ratios, board)), board)


class NoNotes(NoteCase):
    def test_thirty_one_figures_and_more(self):
        for part in THIRTY_ONE + ["1" * 32, "1" * 10000]:
            self.assert_no_part(part)

    def test_a_nought_ahead_of_others(self):
        for part in ("00", "01", "07", "010", "000", "0" * 30, "0" * 29 + "1", "0" * 31, "0" + "1" * 30):
            self.assert_no_part(part)

    def test_another_sign_ahead_of_the_figures(self):
        for sign in OTHER_SIGNS:
            for figures in ("0", "5", "12"):
                self.assert_no_part(sign + figures)

    def test_another_sign_within_the_figures(self):
        for sign in OTHER_SIGNS:
            self.assert_no_part("1" + sign + "2")
            self.assert_no_part("0" + sign + "0")

    def test_another_sign_behind_the_figures(self):
        for sign in OTHER_SIGNS:
            for figures in ("0", "5", "12"):
                self.assert_no_part(figures + sign)

    def test_other_signs_alone(self):
        for sign in OTHER_SIGNS:
            self.assert_no_part(sign)
            self.assert_no_part(sign * 2)

    def test_other_makes_of_numbers(self):
        for part in ("0x1", "0b1", "0o7", "1e3", "1.0", "--1", "+-1", "1_000", "-0", "+0", "\n1\n", " 1 ", "None"):
            self.assert_no_part(part)

    def test_no_figures_on_a_line(self):
        self.assert_no_part("")
        for ratios in FRAMES:
            self.assert_refused(NoNote, read, ratios, "")
            self.assert_refused(NoNote, read, ratios, "|" * len(ratios))

    def test_a_stroke_too_many(self):
        for ratios in FRAMES:
            parts = ["7"] * (len(ratios) + 1)
            text = "|".join(parts)
            self.assert_refused(NoNote, read, ratios, "|" + text)
            self.assert_refused(NoNote, read, ratios, text + "|")
            self.assert_refused(NoNote, read, ratios, "|" + text + "|")
            self.assert_refused(NoNote, read, ratios, "|")
            self.assert_refused(NoNote, read, ratios, "|" * (len(ratios) + 1))
            for place in range(len(ratios)):
                self.assert_refused(NoNote, read, ratios, "|".join(parts[: place + 1]) + "||" + "|".join(parts[place + 1 :]))

    def test_a_stroke_too_many_in_the_place_of_a_line(self):
        self.assert_refused(NoNote, read, [3], "|7")
        self.assert_refused(NoNote, read, [3], "7|")
        self.assert_refused(NoNote, read, [3, 4], "7||7")
        self.assert_refused(NoNote, read, [3, 4], "|7|7")
        self.assert_refused(NoNote, read, [3, 4], "7|7|")

    def test_lines_too_few_or_too_many(self):
        for ratios in FRAMES:
            for lines in range(15):
                if lines != len(ratios) + 1:
                    for part in ("0", "7"):
                        self.assert_refused(NoNote, read, ratios, "|".join([part] * lines))

    def test_bad_frames_come_ahead_of_bad_notes(self):
        for ratios in bad_frames():
            good = "|".join(["7"] * (len(ratios) + 1))
            for text in (good, good + "|7", good + "|", "", "|", "x", "00", "-1", "1" * 31):
                self.assert_refused(NoFrame, read, ratios, text)


if __name__ == "__main__":
    unittest.main()
