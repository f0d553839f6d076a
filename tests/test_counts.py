"""Promise 5: counts."""

import unittest

from tests.helper import EXAMPLE, NUMBER_MOST, X, Y, ask, code, const, counts, last, outs, small, told

LADDER = [X] + [(4, at, at) for at in range(79)]


class Counts(unittest.TestCase):
    def test_no_code_at_all(self):
        for mode in range(16):
            self.assertEqual(last(counts(mode)), [0] * 6)
            self.assertEqual(last(code(3), counts(mode)), [0] * 6)

    def test_the_example(self):
        self.assertEqual(last(code(1, *EXAMPLE), counts(15)), [6, 4, 3, 1, 0, 0])
        self.assertEqual(last(code(1, *EXAMPLE), counts(7)), [6, 4, 3, 3, 1, 1])
        self.assertEqual(last(code(1, *EXAMPLE), counts(0)), [6, 4, 3, 6, 4, 3])

    def test_inputs_and_constants_are_no_operations(self):
        self.assertEqual(last(code(1, X, const(5)), counts(0)), [2, 0, 0, 2, 0, 0])

    def test_each_operation(self):
        for line in ((2, 0, 0), (3, 0, 0), (4, 0, 0), (5, 0, 0), (6, 0)):
            self.assertEqual(last(code(1, X, line), counts(0)), [2, 1, 1, 2, 1, 1])

    def test_depth_is_of_the_deepest_line_that_is_used(self):
        lines = [X, Y, (2, 0, 1), (6, 2), (4, 3, 0), (3, 0, 3), (5, 3, 4), (6, 0)]
        self.assertEqual(last(code(2, *lines), counts(0)), [8, 6, 4, 8, 6, 4])

    def test_depth_is_the_greatest_whatever_the_outs(self):
        lines = [X, (6, 0), (4, 1, 1), X]
        self.assertEqual(last(code(1, *lines), outs(0), counts(0)), [4, 2, 2, 4, 2, 2])
        self.assertEqual(last(code(1, *lines), outs(), counts(7)), [4, 2, 2, 3, 2, 2])

    def test_dead_lines_count_before_and_not_behind(self):
        lines = [X, (6, 0), (4, 1, 1), Y]
        self.assertEqual(last(code(2, *lines), counts(8)), [4, 2, 2, 1, 0, 0])
        self.assertEqual(last(code(2, *lines), outs(1), counts(8)), [4, 2, 2, 2, 1, 1])
        self.assertEqual(last(code(2, *lines), outs(), counts(8)), [4, 2, 2, 0, 0, 0])

    def test_each_of_the_modes(self):
        lines = [X, const(2), const(2), (4, 1, 2), (2, 3, 0), (3, 4, 4), (2, 4, 5)]
        made = {
            0: [7, 4, 4], 1: [6, 4, 4], 2: [7, 3, 3], 3: [6, 3, 3], 4: [6, 2, 2], 5: [5, 2, 2], 6: [6, 1, 1],
            7: [5, 1, 1], 8: [7, 4, 4], 9: [6, 4, 4], 10: [5, 3, 3], 11: [5, 3, 3], 12: [5, 2, 2], 13: [4, 2, 2],
            14: [3, 1, 1], 15: [3, 1, 1],
        }
        for mode in range(16):
            with self.subTest(mode=mode):
                self.assertEqual(last(code(1, *lines), counts(mode)), [7, 4, 4, *made[mode]])

    def test_80_lines_deep(self):
        self.assertEqual(last(code(1, *LADDER), counts(15)), [80, 79, 79] * 2)

    def test_numbers_that_are_no_mode(self):
        for mode in (-1, 16, NUMBER_MOST, -NUMBER_MOST):
            before = told([X, Y], [0])
            answered = ask(code(2, X, Y), outs(0), counts(mode), small(0))
            self.assertEqual(answered[2:], [[-1], before])
            self.assertEqual(last(counts(mode)), [-1])


if __name__ == "__main__":
    unittest.main()
