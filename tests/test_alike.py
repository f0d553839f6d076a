"""Promise 6: alike."""

import unittest

from tests.helper import EXAMPLE, NUMBER_MOST, X, Y, alike, ask, code, const, held, last, outs, run, take, told, worth

SHARED = (X, Y, (2, 0, 1), (2, 1, 0), X, const(1, 2), const(2, 4))


class Alike(unittest.TestCase):
    def by_mode(self, lines, i, j, modes, out_numbers=None):
        """The lines i and j are alike by just these modes, whichever is named first, whatever the outs."""
        start = [code(2, *lines)] + ([] if out_numbers is None else [outs(*out_numbers)])
        for mode in range(16):
            with self.subTest(lines=lines, i=i, j=j, mode=mode):
                expected = [1 if mode in modes else 0]
                self.assertEqual(ask(*start, alike(mode, i, j), alike(mode, j, i))[-2:], [expected, expected])

    def test_a_line_and_itself(self):
        for at in range(len(EXAMPLE)):
            self.by_mode(EXAMPLE, at, at, range(16))

    def test_by_share(self):
        with_share = range(1, 16, 2)
        self.by_mode(SHARED, 2, 3, with_share)
        self.by_mode(SHARED, 0, 4, with_share)
        self.by_mode(SHARED, 5, 6, with_share)

    def test_never(self):
        self.by_mode(SHARED, 0, 1, ())
        self.by_mode(SHARED, 0, 2, ())
        self.by_mode(SHARED, 4, 5, ())
        self.by_mode((X, Y, (3, 0, 1), (3, 1, 0)), 2, 3, ())
        self.by_mode((X, Y, (5, 0, 1), (5, 1, 0)), 2, 3, ())
        self.by_mode((const(1), const(-1)), 0, 1, ())

    def test_by_an_identity(self):
        with_identities = (4, 5, 6, 7, 12, 13, 14, 15)
        self.by_mode((X, const(0), (2, 0, 1)), 0, 2, with_identities)
        self.by_mode((X, (6, 0), (6, 1)), 0, 2, with_identities)
        self.by_mode((X, const(1), (5, 0, 1), (4, 2, 1)), 2, 3, with_identities)

    def test_by_an_identity_with_share(self):
        both = (5, 7, 13, 15)
        self.by_mode((X, Y, (3, 0, 1), (6, 1), (2, 0, 3)), 2, 4, both)
        self.by_mode(EXAMPLE, 1, 5, both)

    def test_by_a_fold_with_share(self):
        both = (3, 7, 11, 15)
        self.by_mode((const(2), const(4), (2, 0, 0)), 1, 2, both)
        self.by_mode((const(2), (2, 0, 0), (4, 0, 0)), 1, 2, both)

    def test_alike_is_not_of_the_same_value(self):
        self.by_mode((X, (2, 0, 0), const(2), (4, 0, 2)), 1, 3, ())

    def test_dead_lines_are_still_looked_at(self):
        # With mode 8 all lines but the last are left out; they don't become alike by being gone.
        lines = (X, X, Y, (6, 0), (6, 1), const(7))
        with_share = range(1, 16, 2)
        for out_numbers in ([5], []):
            self.by_mode(lines, 0, 1, with_share, out_numbers)
            self.by_mode(lines, 3, 4, with_share, out_numbers)
            self.by_mode(lines, 0, 2, (), out_numbers)
            self.by_mode(lines, 0, 3, (), out_numbers)
            self.by_mode(lines, 2, 5, (), out_numbers)

    def test_the_example(self):
        pairs = [(0, 2), (3, 4), (1, 5), (0, 1), (2, 3), (4, 5)]
        for mode in (7, 15):
            answered = ask(code(1, *EXAMPLE), *[alike(mode, i, j) for i, j in pairs])
            self.assertEqual(answered[1:], [[1], [1], [1], [0], [0], [0]])

    def test_after_take(self):
        answered = ask(code(2, *SHARED), alike(1, 2, 3), take(1), alike(0, 2, 3), alike(1, 2, 3), alike(0, 3, 4))
        self.assertEqual(answered, [[7], [1], [4], [0], [0], [-1]])

    def test_the_code_stays_as_it_is(self):
        answered = ask(code(2, *SHARED), outs(3, 0), *[alike(mode, 2, 3) for mode in range(16)], held())
        self.assertEqual(answered[-1], told(SHARED[:-1] + (const(1, 2),), [3, 0]))


class Refused(unittest.TestCase):
    def refused(self, *call):
        with self.subTest(call=call):
            answered = ask(code(1, X, const(5)), outs(1, 0), alike(*call), held(), run(3))
            self.assertEqual(answered[2:], [[-1], told([X, const(5)], [1, 0]), worth(5, 3)])

    def test_modes(self):
        for mode in (-1, 16, NUMBER_MOST, -NUMBER_MOST):
            self.refused(mode, 0, 1)
            self.refused(mode, 0, 0)

    def test_modes_at_the_bounds(self):
        self.assertEqual(ask(code(1, X), alike(0, 0, 0), alike(15, 0, 0)), [[1], [1], [1]])

    def test_numbers_that_are_no_line(self):
        for mode in range(16):
            for number in (-1, -2, 2, 3, NUMBER_MOST, -NUMBER_MOST):
                self.refused(mode, number, 0)
                self.refused(mode, 1, number)
                self.refused(mode, number, number)

    def test_all_wrong(self):
        self.refused(16, -1, 2)

    def test_without_lines(self):
        for mode in range(16):
            for number in (0, -1, 1):
                self.assertEqual(last(alike(mode, number, number)), [-1])
                self.assertEqual(last(code(2), alike(mode, number, number)), [-1])

    def test_lines_that_take_left_out(self):
        answered = ask(code(2, X, Y), take(8), alike(0, 0, 1), alike(0, 0, 0), outs(), take(8), alike(0, 0, 0), held())
        self.assertEqual(answered, [[2], [1], [-1], [1], [0], [0], [-1], [0, 0]])


if __name__ == "__main__":
    unittest.main()
