"""Promise 8: lines."""

import unittest

from tests.helper import EXAMPLE, NUMBER_MOST, X, Y, ask, code, code_row, const, held, last, outs, small, take, told


class Lines(unittest.TestCase):
    def test_without_code(self):
        self.assertEqual(last(held()), [0, 0])
        self.assertEqual(ask(outs(), held(), take(15), held()), [[0], [0, 0], [0], [0, 0]])

    def test_code_without_lines(self):
        self.assertEqual(ask(code(12), held(), code(1, X), code(0), held()), [[0], [0, 0], [1], [0], [0, 0]])

    def test_in_numbers(self):
        self.assertEqual(last(code(1, *EXAMPLE), held()), [6, 0, 0, 1, 0, 1, 2, 0, 1, 4, 2, 0, 4, 0, 0, 3, 3, 4, 1, 5])

    def test_each_kind(self):
        lines = (X, const(-3, 7), (2, 0, 1), (3, 0, 1), (4, 0, 1), (5, 0, 1), (6, 0))
        for length in range(1, len(lines) + 1):
            self.assertEqual(last(code(1, *lines[:length]), held()), told(lines[:length], [length - 1]))

    def test_nothing_is_made_smaller(self):
        # Each of the modes would change these lines.
        lines = (X, X, const(2), const(2), (2, 2, 3), (2, 1, 0), (3, 0, 0), (6, 0), (6, 7), Y)
        self.assertEqual(last(code(2, *lines), held()), told(lines, [9]))

    def test_constants_not_in_lowest_terms(self):
        lines = [const(6, 4), const(-6, 4), const(0, 5), const(7, 7), const(NUMBER_MOST, NUMBER_MOST),
                 const(-NUMBER_MOST, 2)]
        shown = [const(3, 2), const(-3, 2), const(0), const(1), const(1), const(-NUMBER_MOST // 2)]
        self.assertEqual(last(code(0, *lines), held()), told(shown, [5]))

    def test_after_outs(self):
        for numbers in ([], [0], [1, 0], [1, 1, 0, 1], [0, 1] * 6):
            self.assertEqual(last(code(2, X, Y), outs(*numbers), held()), told([X, Y], numbers))

    def test_after_take(self):
        lines = [X, const(2, 4), X, (4, 2, 1)]
        self.assertEqual(last(code(1, *lines), outs(3, 2, 3), take(9), held()),
                         told([X, const(1, 2), (4, 0, 1)], [2, 0, 2]))

    def test_after_new_code(self):
        self.assertEqual(last(code(2, X, Y), outs(0, 0), code(1, X), held()), told([X], [0]))

    def test_after_refusals(self):
        before = told([X, Y], [1, 0])
        answered = ask(code(2, X, Y), outs(1, 0), code(13), held(), code_row(1, [9]), held(), code(1, Y), held(),
                       code(1, *[X] * 81), held(), outs(2), held())
        self.assertEqual(answered[2:], [[-1], before, [-2], before, [-3], before, [-7], before, [-2], before])

    def test_the_same_as_small_with_mode_0(self):
        first, second = ask(code(1, *EXAMPLE), outs(2, 4), held(), small(0))[2:]
        self.assertEqual(first, second)

    def test_two_times_the_same(self):
        first, second = ask(code(1, *EXAMPLE), held(), held())[1:]
        self.assertEqual(first, second)

    def test_80_lines_and_12_outs(self):
        lines = [const(at, 83) for at in range(1, 81)]
        self.assertEqual(last(code(0, *lines), outs(*range(12)), held()), told(lines, range(12)))


if __name__ == "__main__":
    unittest.main()
