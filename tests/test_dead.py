"""Promises 3 and 4: dead lines, and the outs by their new numbers."""

import unittest

from tests.helper import X, Y, Z, Making, const

MODES_WITHOUT = range(8)
LINES = [X, Y, Z, (2, 0, 2), (4, 1, 1), (6, 3)]


class Dead(Making):
    def test_what_the_outs_need_stays(self):
        self.makes(8, LINES, [X, Z, (2, 0, 1), (6, 2)], [0, -1, 1, 2, -1, 3])
        self.makes(8, LINES, [Y, (4, 0, 0)], [-1, 0, -1, -1, 1, -1], [4])
        self.makes(8, LINES, [X, Z, (2, 0, 1)], [0, -1, 1, 2, -1, -1], [3])

    def test_several_outs(self):
        self.makes(8, LINES, LINES, range(6), [5, 4])
        self.makes(8, LINES, [X, Y, (4, 1, 1)], [0, 1, -1, -1, 2, -1], [4, 0])

    def test_an_out_told_more_than_once(self):
        self.makes(8, LINES, [Y, Z], [-1, 0, 1, -1, -1, -1], [2, 1, 2, 2])

    def test_twelve_outs(self):
        self.makes(8, LINES, [Z], [-1, -1, 0, -1, -1, -1], [2] * 12)
        self.makes(7, LINES, LINES, range(6), [2, 1] * 6)

    def test_without_outs_all_are_gone(self):
        for mode in range(8, 16):
            self.makes(mode, LINES, [], [-1] * 6, [])

    def test_without_the_mode_all_stay(self):
        for mode in MODES_WITHOUT:
            self.makes(mode, LINES, LINES, range(6), [])
            self.makes(mode, LINES, LINES, range(6), [1, 1])

    def test_each_kind_needs_the_lines_that_it_uses(self):
        for kind in (2, 3, 4, 5):
            lines = [X, Y, Z, const(7), (kind, 3, 1), const(0)]
            self.makes(8, lines, [Y, const(7), (kind, 1, 0)], [-1, 0, -1, 1, 2, -1], [4])

    def test_a_constants_numbers_are_no_lines(self):
        self.makes(8, [X, Y, const(0), const(1, 2)], [const(1, 2)], [-1, -1, -1, 0])
        self.makes(8, [X, Y, const(1), (0, 1)], [(0, 1)], [-1, -1, -1, 0])

    def test_outs_that_go_to_one_line(self):
        lines = [X, Y, X, (2, 0, 1), (2, 1, 2)]
        self.makes(9, lines, [X, Y, (2, 0, 1)], [0, 1, 0, 2, 2], [3, 4, 2, 0])

    def test_a_line_whose_new_line_is_left_out_is_gone(self):
        lines = [X, X, Y, (2, 0, 2), (2, 1, 2)]
        self.makes(9, lines, [Y], [-1, -1, 0, -1, -1], [2])

    def test_a_dead_line_that_went_to_a_needed_one_is_not_gone(self):
        self.makes(9, [X, Y, X], [X], [0, -1, 0], [0])

    def test_what_folds_and_identities_left_behind(self):
        lines = [X, const(2), const(-2), (2, 1, 2), (2, 0, 3)]
        self.makes(14, lines, [X], [0, -1, -1, -1, 0])
        self.makes(10, lines, [X, const(0), (2, 0, 1)], [0, -1, -1, 1, 2])

    def test_a_dead_faulty_line_is_left_out(self):
        self.makes(15, [X, const(0), (5, 0, 1)], [X], [0, -1, -1], [0])


if __name__ == "__main__":
    unittest.main()
