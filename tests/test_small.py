"""Promises 3 and 4: small and map, what each mode makes of the code."""

import unittest

from tests.helper import EXAMPLE, NUMBER_MOST, X, Y, Making, ask, code, const, last, outs, small, told, went


class Modes(Making):
    LINES = (X, const(2), const(2), (4, 1, 2), (2, 3, 0), (3, 4, 4), (2, 4, 5))
    # What each mode without dead lines left out makes: the lines, where each went.
    MADE = {
        0: (LINES, (0, 1, 2, 3, 4, 5, 6)),
        1: ((X, const(2), (4, 1, 1), (2, 0, 2), (3, 3, 3), (2, 3, 4)), (0, 1, 1, 2, 3, 4, 5)),
        2: ((X, const(2), const(2), const(4), (2, 3, 0), (3, 4, 4), (2, 4, 5)), (0, 1, 2, 3, 4, 5, 6)),
        3: ((X, const(2), const(4), (2, 0, 2), (3, 3, 3), (2, 3, 4)), (0, 1, 1, 2, 3, 4, 5)),
        4: ((X, const(2), const(2), (4, 1, 2), (2, 3, 0), const(0)), (0, 1, 2, 3, 4, 5, 4)),
        5: ((X, const(2), (4, 1, 1), (2, 0, 2), const(0)), (0, 1, 1, 2, 3, 4, 3)),
        6: ((X, const(2), const(2), const(4), (2, 3, 0), const(0)), (0, 1, 2, 3, 4, 5, 4)),
        7: ((X, const(2), const(4), (2, 0, 2), const(0)), (0, 1, 1, 2, 3, 4, 3)),
    }
    # The same with dead lines left out; the out is the last line.
    MADE_ALIVE = {
        8: (LINES, (0, 1, 2, 3, 4, 5, 6)),
        9: ((X, const(2), (4, 1, 1), (2, 0, 2), (3, 3, 3), (2, 3, 4)), (0, 1, 1, 2, 3, 4, 5)),
        10: ((X, const(4), (2, 1, 0), (3, 2, 2), (2, 2, 3)), (0, -1, -1, 1, 2, 3, 4)),
        11: ((X, const(4), (2, 0, 1), (3, 2, 2), (2, 2, 3)), (0, -1, -1, 1, 2, 3, 4)),
        12: ((X, const(2), const(2), (4, 1, 2), (2, 3, 0)), (0, 1, 2, 3, 4, -1, 4)),
        13: ((X, const(2), (4, 1, 1), (2, 0, 2)), (0, 1, 1, 2, 3, -1, 3)),
        14: ((X, const(4), (2, 1, 0)), (0, -1, -1, 1, 2, -1, 2)),
        15: ((X, const(4), (2, 0, 1)), (0, -1, -1, 1, 2, -1, 2)),
    }

    def test_every_mode(self):
        for mode, (lines, places) in {**self.MADE, **self.MADE_ALIVE}.items():
            self.makes(mode, self.LINES, lines, places)

    def test_numbers_that_are_no_mode(self):
        for mode in (-1, 16, 17, -16, NUMBER_MOST, -NUMBER_MOST):
            for call in (small(mode), went(mode)):
                before = told([X, Y], [0])
                answered = ask(code(2, X, Y), outs(0), call, small(0))
                self.assertEqual(answered[2:], [[-1], before])
                self.assertEqual(last(call), [-1])

    def test_no_code_at_all(self):
        for mode in range(16):
            self.assertEqual(ask(small(mode), went(mode)), [[0, 0], [0]])
            self.assertEqual(ask(code(12), small(mode), went(mode)), [[0], [0, 0], [0]])

    def test_the_code_stays_as_it_is(self):
        calls = [call(mode) for mode in range(16) for call in (small, went)]
        answered = ask(code(1, *EXAMPLE), *calls, small(0), went(0))
        self.assertEqual(answered[-2:], [told(EXAMPLE, [5]), [6, 0, 1, 2, 3, 4, 5]])

    def test_the_example(self):
        self.makes(15, EXAMPLE, [const(0)], [-1, 0, -1, -1, -1, 0])
        self.makes(7, EXAMPLE, [X, const(0), (4, 0, 0)], [0, 1, 0, 2, 2, 1])

    def test_the_example_in_numbers(self):
        self.assertEqual(last(code(1, *EXAMPLE), small(15)), [1, 1, 0, 1, 1, 0])
        self.assertEqual(last(code(1, *EXAMPLE), small(7)), [3, 0, 0, 1, 0, 1, 4, 0, 0, 1, 1])


class LowestTerms(Making):
    def test_in_every_mode(self):
        for mode in range(16):
            self.makes(mode, [const(6, 4)], [const(3, 2)], [0])
            self.makes(mode, [const(-6, 4)], [const(-3, 2)], [0])
            self.makes(mode, [const(0, 5)], [const(0)], [0])
            self.makes(mode, [const(NUMBER_MOST, NUMBER_MOST)], [const(1)], [0])

    def test_constants_told_otherwise_are_shared(self):
        self.makes(1, [const(2, 4), const(1, 2), const(-1, 2), const(3, 6)], [const(1, 2), const(-1, 2)], [0, 0, 1, 0])

    def test_identities_see_through_it(self):
        self.makes(4, [X, const(0, 9), (2, 0, 1)], [X, const(0)], [0, 1, 0])
        self.makes(4, [X, const(7, 7), (4, 0, 1)], [X, const(1)], [0, 1, 0])
        self.makes(4, [X, const(-7, 7), (4, 0, 1)], [X, const(-1), (6, 0)], [0, 1, 2])


if __name__ == "__main__":
    unittest.main()
