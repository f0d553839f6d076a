"""Promise 1: code."""

import unittest

from tests.helper import NUMBER_MOST, X, Y, ask, code, code_row, const, counts, last, outs, small, told, went


class Taken(unittest.TestCase):
    def test_no_lines(self):
        self.assertEqual(ask(code(0), small(0), went(0), counts(0)), [[0], [0, 0], [0], [0] * 6])

    def test_no_lines_take_the_place_of_lines(self):
        self.assertEqual(ask(code(1, X), code(0), small(0)), [[1], [0], [0, 0]])

    def test_each_kind(self):
        lines = (X, const(-3, 7), (2, 0, 1), (3, 0, 1), (4, 0, 1), (5, 0, 1), (6, 0))
        for length in range(1, len(lines) + 1):
            with self.subTest(length=length):
                part = lines[:length]
                self.assertEqual(ask(code(1, *part), small(0)), [[length], told(part, [length - 1])])

    def test_a_line_may_use_any_earlier_line_twice(self):
        for kind in (2, 3, 4, 5):
            lines = (X, (kind, 0, 0), (kind, 1, 0), (kind, 0, 1))
            self.assertEqual(ask(code(1, *lines), small(0)), [[4], told(lines, [3])])

    def test_division_by_the_constant_0_is_taken(self):
        lines = (const(0), (5, 0, 0))
        self.assertEqual(ask(code(0, *lines), small(0)), [[2], told(lines, [1])])

    def test_constants_at_the_bounds(self):
        lines = (const(NUMBER_MOST), const(-NUMBER_MOST), const(1, NUMBER_MOST), const(NUMBER_MOST, NUMBER_MOST - 1))
        self.assertEqual(ask(code(0, *lines), small(0)), [[4], told(lines, [3])])

    def test_80_lines(self):
        self.assertEqual(last(code(1, *[X] * 80)), [80])
        lines = [X] + [(2, at, at) for at in range(79)]
        self.assertEqual(ask(code(1, *lines), small(0)), [[80], told(lines, [79])])

    def test_inputs_at_the_bounds(self):
        self.assertEqual(last(code(0, const(1))), [1])
        self.assertEqual(last(code(12, (0, 0), (0, 11))), [2])

    def test_the_only_out_is_the_last_line(self):
        answered = ask(code(1, X, X, X), outs(0, 1), code(1, X, X), small(0))
        self.assertEqual(answered[-1], told([X, X], [1]))

    def test_inputs_of_the_newest_code_count(self):
        self.assertEqual(ask(code(2, Y), code(1, Y), code(1, X)), [[1], [-3], [1]])


class Refused(unittest.TestCase):
    def refused(self, number, *calls):
        for call in calls:
            with self.subTest(call=call):
                before = told([X, const(5)], [0, 0])
                answered = ask(code(1, X, const(5)), outs(0, 0), small(0), call, small(0))
                self.assertEqual(answered, [[2], [2], before, [number], before])
                self.assertEqual(ask(call, small(0)), [[number], [0, 0]])

    def test_n(self):
        self.refused(-1, *[code(n, const(1)) for n in (-1, 13, NUMBER_MOST, -NUMBER_MOST)])
        self.refused(-1, code(-1), code(13))

    def test_lists_that_break_off(self):
        for kind, length in ((0, 2), (1, 3), (2, 3), (3, 3), (4, 3), (5, 3), (6, 2)):
            for there in range(1, length):
                row = [kind, 1, 1][:there]
                self.refused(-2, code_row(1, row), code_row(1, [0, 0, 0, 0] + row))

    def test_a_number_too_many(self):
        self.refused(-2, code_row(1, [0, 0, 0]), code_row(1, [0, 0, 6, 0, 0]))

    def test_kinds_that_are_not(self):
        for kind in (-1, -6, 7, 8, NUMBER_MOST, -NUMBER_MOST):
            self.refused(-2, code_row(1, [kind]), code_row(1, [0, 0, kind, 0, 0]), code_row(1, [kind, 0]))

    def test_numbers_below_0(self):
        self.refused(-2, code(1, (0, -1)), code(1, X, (6, -1)))
        for kind in (2, 3, 4, 5):
            self.refused(-2, code(1, X, (kind, 0, -1)), code(1, X, (kind, -1, 0)), code(1, X, (kind, -NUMBER_MOST, 0)))

    def test_denominators(self):
        self.refused(-2, *[code(1, const(1, bottom)) for bottom in (0, -1, -NUMBER_MOST)])
        self.refused(-2, code(0, const(0, 0)))

    def test_too_many_lines(self):
        self.refused(-7, code(1, *[X] * 81), code(1, *[X] * 200), code(0, *[const(1)] * 133))

    def test_lines_that_are_not_earlier(self):
        for kind in (2, 3, 4, 5):
            self.refused(-3, code(1, X, (kind, 0, 1)), code(1, X, (kind, 1, 0)), code(1, (kind, 0, 0)))
            self.refused(-3, code(1, X, (kind, 0, 2), X), code(1, X, (kind, NUMBER_MOST, 0)))
        self.refused(-3, code(1, (6, 0)), code(1, X, (6, 1)), code(1, X, (6, 2), X), code(1, X, (6, 77)))

    def test_inputs_that_are_not(self):
        self.refused(-3, code(0, (0, 0)), code(1, (0, 1)), code(12, (0, 12)), code(12, X, (0, NUMBER_MOST)))

    def test_a_number_that_is_no_use_of_a_line_is_no_fault(self):
        self.assertEqual(last(code(0, const(99))), [1])
        self.assertEqual(last(code(12, (0, 11))), [1])


class Order(unittest.TestCase):
    def test_n_before_the_list(self):
        self.assertEqual(last(code_row(13, [9])), [-1])

    def test_n_before_too_many_lines(self):
        self.assertEqual(last(code(-1, *[const(1)] * 81)), [-1])

    def test_n_before_uses(self):
        self.assertEqual(last(code(13, (6, 0))), [-1])
        self.assertEqual(last(code(-1, X)), [-1])

    def test_the_list_before_too_many_lines(self):
        self.assertEqual(last(code_row(1, [0, 0] * 81 + [9])), [-2])
        self.assertEqual(last(code_row(1, [0, 0] * 81 + [2, 0])), [-2])

    def test_the_list_before_uses(self):
        self.assertEqual(last(code(1, (6, 0), const(1, 0))), [-2])
        self.assertEqual(last(code(0, X, (0, -1))), [-2])

    def test_too_many_lines_before_uses(self):
        self.assertEqual(last(code(0, *[X] * 81)), [-7])
        self.assertEqual(last(code(0, (6, 0), *[const(1)] * 80)), [-7])


if __name__ == "__main__":
    unittest.main()
