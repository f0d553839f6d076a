"""The interface: one list of calls, one list of answers."""

import unittest

from smallcode.desk import UnknownCall, answers
from tests.helper import EXAMPLE, X, Y, ask, code, code_row, const, counts, flat, outs, small, told, went

MANY = (
    small(15), went(3), counts(0), outs(), outs(0), code(1, *EXAMPLE), small(15), small(16), code(13), small(7),
    outs(2, 3), counts(8), went(8), outs(6), small(8), code(2, X, Y), went(15), code(0), counts(15), small(0),
)
MANY_ANSWERED = [
    [0, 0], [0], [0] * 6, [0], [-2], [6], [1, 1, 0, 1, 1, 0], [-1], [-1], [3, 0, 0, 1, 0, 1, 4, 0, 0, 1, 1],
    [2], [6, 4, 3, 4, 2, 2], [6, 0, 1, 2, 3, -1, -1], [-2], [4, 0, 0, 1, 0, 1, 2, 0, 1, 4, 2, 0, 2, 2, 3], [2],
    [2, -1, 0], [0], [0] * 6, [0, 0],
]


class Answers(unittest.TestCase):
    def test_number_by_number(self):
        calls = [0, 1, 17, 0, 0, 1, 0, 1, 2, 0, 1, 4, 2, 0, 4, 0, 0, 3, 3, 4, 2, 15, 3, 7, 4, 7, 2, 16, 1, 1, 6, 1, 0]
        expected = [1, 6, 6, 1, 1, 0, 1, 1, 0, 7, 6, 0, 1, 0, 2, 2, 1, 6, 6, 4, 3, 3, 1, 1, 1, -1, 1, -2, 1, 0]
        self.assertEqual(answers(calls), expected)

    def test_several_calls_in_any_order(self):
        self.assertEqual(ask(*MANY), MANY_ANSWERED)

    def test_a_refused_code_is_gone_through_whole(self):
        row = [9, 2, 15, 3, 0]
        self.assertEqual(ask(code(1, X), code_row(1, row), code_row(13, row), outs(5, 2, 15), small(0)),
                         [[1], [-2], [-1], [-2], told([X], [0])])

    def test_the_list_that_is_handed_in_stays(self):
        calls = flat(MANY)
        before = list(calls)
        answers(calls)
        self.assertEqual(calls, before)

    def test_two_times_the_same(self):
        calls = flat(MANY)
        first = answers(calls)
        kept = list(first)
        second = answers(calls)
        self.assertEqual(second, kept)
        self.assertEqual(first, kept)
        self.assertIsNot(first, second)

    def test_nothing_is_kept_from_one_time_to_the_next(self):
        answers(flat([code(1, *EXAMPLE), outs(1, 2)]))
        self.assertEqual(answers([2, 0, 3, 0]), [2, 0, 0, 1, 0])

    def test_whole_numbers_in_a_list(self):
        given = answers(flat(MANY))
        self.assertIs(type(given), list)
        self.assertEqual({type(number) for number in given}, {int})

    def test_400_calls(self):
        lines = [X] + [(2, at, at) for at in range(79)]
        calls = [code(1, *lines)] + [small(15)] * 399
        self.assertEqual(ask(*calls), [[80]] + [told(lines, [79])] * 399)

    def test_400_calls_with_long_constants(self):
        lines = [const(10 ** 18, 10 ** 18 - 1)] + [(4, at, 0) for at in range(79)]
        calls = [code(0, *lines)] + [counts(15)] * 399
        self.assertEqual(len(ask(*calls)), 400)

    def test_a_number_of_no_call(self):
        for call in (-1, 9, 10 ** 18):
            with self.assertRaises(UnknownCall):
                answers([2, 0, call])


if __name__ == "__main__":
    unittest.main()
