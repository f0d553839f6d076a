"""Promise 7: take."""

import unittest

from tests import test_small
from tests.helper import (EXAMPLE, NUMBER_MOST, X, Y, Z, alike, ask, code, const, counts, held, last, outs, run,
                          run_row, small, take, told, went, worth)

FAULTY = (X, const(0), (5, 0, 1), (4, 2, 1))


class Taken(unittest.TestCase):
    def takes(self, mode, lines, new_lines, new_outs, out_numbers=None):
        """What the object holds behind take, told by lines."""
        start = [code(3, *lines)] + ([] if out_numbers is None else [outs(*out_numbers)])
        with self.subTest(mode=mode, lines=lines):
            answered = ask(*start, take(mode), held())
            self.assertEqual(answered[-2:], [[len(new_lines)], told(new_lines, new_outs)])

    def test_every_mode(self):
        modes = test_small.Modes
        for mode, (lines, places) in {**modes.MADE, **modes.MADE_ALIVE}.items():
            self.takes(mode, modes.LINES, lines, [places[-1]])
        for mode, (lines, places) in modes.MADE.items():
            self.takes(mode, modes.LINES, lines, places, range(7))

    def test_the_example(self):
        self.takes(15, EXAMPLE, [const(0)], [0])
        self.takes(7, EXAMPLE, [X, const(0), (4, 0, 0)], [1])
        self.assertEqual(ask(code(1, *EXAMPLE), take(15), held(), run(5)), [[6], [1], [1, 1, 0, 1, 1, 0], worth(0)])

    def test_outs_by_their_new_numbers_in_their_order(self):
        lines = [X, Y, X, Z, (2, 0, 1), (2, 1, 2)]
        self.takes(1, lines, [X, Y, Z, (2, 0, 1)], [3, 3, 2, 0, 2], [5, 4, 3, 2, 3])
        self.takes(9, lines, [X, Z], [1, 0, 0], [3, 2, 0])
        self.takes(8, lines, [Y, X, (2, 0, 1)], [2, 0, 2], [5, 1, 5])

    def test_twelve_outs(self):
        self.takes(9, [X, X, Y], [X, Y], [0, 1, 0] * 4, [1, 2, 0] * 4)

    def test_constants_in_lowest_terms(self):
        for mode in range(16):
            self.takes(mode, [const(-6, 4)], [const(-3, 2)], [0])

    def test_heavy_constants(self):
        lines = [const(2 ** 59), (4, 0, 0), (4, 1, 0)]
        self.takes(10, lines, [const(2 ** 177)], [0])
        self.assertEqual(last(code(0, *lines), take(10), run()), worth(2 ** 177))

    def test_80_lines(self):
        lines = [X] + [(2, at, at) for at in range(79)]
        for mode in range(16):
            self.takes(mode, lines, lines, [79])
        self.takes(1, [X] * 80, [X], [0])
        self.takes(8, [X] * 80, [X], [0])

    def test_no_lines(self):
        for mode in range(16):
            self.assertEqual(ask(take(mode), held(), run()), [[0], [0, 0], [0, 0]])
            self.takes(mode, [], [], [])

    def test_no_outs(self):
        for mode in range(16):
            self.takes(mode, [X, Y], [] if mode & 8 else [X, Y], [], [])

    def test_inputs_stay_as_they_were(self):
        for mode in range(16):
            answered = ask(code(3, X, Z), take(mode), run(1, 2, 3), run(1, 2), run(1), run())
            self.assertEqual(answered[2:], [worth(3), [-2], [-2], [-2]])
        # No line is left, and two inputs still are.
        self.assertEqual(ask(code(2, X), outs(), take(8), run(1, 2), run())[3:], [[0, 0], [-2]])


class AfterTake(unittest.TestCase):
    LINES = (X, Y, (2, 0, 1), (2, 1, 0), (3, 2, 3), (2, 4, 0))
    # By mode 1 the sums are one line.
    MADE = (X, Y, (2, 0, 1), (3, 2, 2), (2, 0, 3))

    def after(self, *calls):
        return ask(code(2, *self.LINES), outs(5, 3, 2), take(1), *calls)[3:]

    def test_lines(self):
        self.assertEqual(self.after(held()), [told(self.MADE, [4, 2, 2])])

    def test_run(self):
        self.assertEqual(self.after(run(3, 4)), [worth(3, 7, 7)])

    def test_small(self):
        self.assertEqual(self.after(small(0), small(8), small(15)),
                         [told(self.MADE, [4, 2, 2]), told(self.MADE, [4, 2, 2]), told(self.MADE[:3], [0, 2, 2])])

    def test_map(self):
        self.assertEqual(self.after(went(0), went(4), went(12)),
                         [[5, 0, 1, 2, 3, 4], [5, 0, 1, 2, 3, 0], [5, 0, 1, 2, -1, 0]])

    def test_counts(self):
        self.assertEqual(self.after(counts(0), counts(15)), [[5, 3, 3, 5, 3, 3], [5, 3, 3, 3, 1, 1]])

    def test_alike(self):
        self.assertEqual(self.after(alike(15, 0, 4), alike(0, 0, 4), alike(0, 4, 4), alike(0, 4, 5)),
                         [[1], [0], [1], [-1]])

    def test_outs(self):
        self.assertEqual(self.after(outs(3, 4), held(), outs(5), held()),
                         [[2], told(self.MADE, [3, 4]), [-2], told(self.MADE, [3, 4])])

    def test_code(self):
        self.assertEqual(self.after(code(1, X), held(), run(2), run(2, 3)), [[1], told([X], [0]), worth(2), [-2]])

    def test_take_with_another_mode(self):
        self.assertEqual(self.after(take(4), held(), take(8), held(), take(8), held()),
                         [[4], told(self.MADE[:3] + (const(0),), [0, 2, 2]), [3], told(self.MADE[:3], [0, 2, 2]),
                          [3], told(self.MADE[:3], [0, 2, 2])])

    def test_share_comes_too_late_for_an_identity(self):
        # Identities first see two sums that aren't one line; behind share they see one.
        answered = ask(code(2, *self.LINES), take(4), held(), take(1), held(), take(4), held())
        self.assertEqual(answered[1:], [[6], told(self.LINES, [5]), [5], told(self.MADE, [4]), [4],
                                        told(self.MADE[:3] + (const(0),), [0])])

    def test_take_after_take_until_nothing_is_left(self):
        answered = ask(code(2, *self.LINES), take(0), take(1), take(2), take(4), take(8), held(), outs(), take(8),
                       held(), take(15))
        self.assertEqual(answered[1:], [[6], [5], [5], [4], [1], told([X], [0]), [0], [0], [0, 0], [0]])

    def test_small_and_map_tell_beforehand_what_take_holds(self):
        for mode in range(16):
            made, taken, shown = ask(code(2, *self.LINES), outs(4, 1), small(mode), take(mode), held())[2:]
            self.assertEqual(made, shown)
            self.assertEqual(taken, shown[:1])


class ValuesStay(unittest.TestCase):
    def test_the_same_values_in_every_mode(self):
        lines = (X, Y, const(3, 6), (2, 0, 1), (2, 1, 0), (5, 3, 2), (6, 4), (2, 5, 6), (3, 4, 3), (4, 8, 5))
        shown = [9, 7, 7, 3, 0]
        for mode in range(16):
            for point in ((3, 4), (0, 0), (-1, 1)):
                before, _, after = ask(code(2, *lines), outs(*shown), run(*point), take(mode), run(*point))[2:]
                total = sum(point)
                self.assertEqual(before, worth(0, total, total, total, point[0]))
                self.assertEqual(after, before)

    def test_a_fault_that_is_left_out_is_no_fault_any_more(self):
        answered = ask(code(1, *FAULTY), outs(0), run(3), take(8), run(3))
        self.assertEqual(answered[2:], [[1, 2, 1], [1], worth(3)])

    def test_a_fault_that_is_needed_stays(self):
        for mode in range(16):
            answered = ask(code(1, *FAULTY), outs(2), take(mode), run(3))
            self.assertEqual(answered[3], [1, 2, 1])

    def test_a_fault_is_told_by_its_new_line(self):
        lines = [Y, X, const(0), (5, 1, 2)]
        self.assertEqual(ask(code(2, *lines), run(1, 2), take(8), run(1, 2))[1:], [[1, 3, 1], [3], [1, 2, 1]])


class Refused(unittest.TestCase):
    def test_numbers_that_are_no_mode(self):
        for mode in (-1, 16, 17, -16, NUMBER_MOST, -NUMBER_MOST):
            with self.subTest(mode=mode):
                answered = ask(code(2, X, X, Y), outs(1, 2), take(mode), held(), run(3, 4), run(3), went(9))
                self.assertEqual(answered[2:], [[-1], told([X, X, Y], [1, 2]), worth(3, 4), [-2], [3, 0, 0, 1]])
                self.assertEqual(ask(take(mode), held()), [[-1], [0, 0]])

    def test_refusals_of_other_calls_after_take(self):
        answered = ask(code(1, X, X), take(1), code(13), code(1, Y), outs(1), take(16), alike(0, 0, 1), run(),
                       run_row([1, 0]), small(16), went(-1), counts(16), held(), run(8))
        self.assertEqual(answered[2:], [[-1], [-3], [-2], [-1], [-1], [-2], [-2], [-1], [-1], [-1], told([X], [0]),
                                        worth(8)])


if __name__ == "__main__":
    unittest.main()
