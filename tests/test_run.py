"""Promise 9: run."""

import unittest
from fractions import Fraction

from tests.helper import (EXAMPLE, NUMBER_MOST, X, Y, Z, ask, code, const, held, last, outs, run, run_row, take, told,
                          worth)

BY_ZERO = 1
TOO_HEAVY = 2


class Values(unittest.TestCase):
    def runs(self, lines, point, *values, out_numbers=None):
        start = [code(len(point), *lines)] + ([] if out_numbers is None else [outs(*out_numbers)])
        with self.subTest(lines=lines, point=point):
            self.assertEqual(last(*start, run(*point)), worth(*values))

    def test_without_code(self):
        self.assertEqual(last(run()), [0, 0])

    def test_code_without_lines(self):
        self.assertEqual(ask(code(0), run(), code(2), run(1, 2), run()), [[0], [0, 0], [0], [0, 0], [-2]])

    def test_no_inputs(self):
        self.runs([const(5)], [], 5)
        self.runs([const(1, 3), const(1, 6), (2, 0, 1)], [], Fraction(1, 2))

    def test_in_numbers(self):
        answered = last(code(2, X, Y, (5, 0, 1), (6, 2)), outs(3, 2, 0), [8, 4, 3, 1, 6, 4])
        self.assertEqual(answered, [0, 3, -2, 1, 2, 1, 3, 1])

    def test_each_operation(self):
        x = Fraction(3, 4)
        y = Fraction(-5, 6)
        self.runs([X, Y, (2, 0, 1)], [x, y], Fraction(-1, 12))
        self.runs([X, Y, (3, 0, 1)], [x, y], Fraction(19, 12))
        self.runs([X, Y, (3, 1, 0)], [x, y], Fraction(-19, 12))
        self.runs([X, Y, (4, 0, 1)], [x, y], Fraction(-5, 8))
        self.runs([X, Y, (5, 0, 1)], [x, y], Fraction(-9, 10))
        self.runs([X, Y, (5, 1, 0)], [x, y], Fraction(-10, 9))
        self.runs([X, Y, (6, 0)], [x, y], Fraction(-3, 4))
        self.runs([X, Y, (6, 1)], [x, y], Fraction(5, 6))

    def test_zero(self):
        self.runs([X, (3, 0, 0), (4, 0, 1), (6, 1), (5, 1, 0)], [7], 0, 0, 0, 0, out_numbers=[1, 2, 3, 4])
        self.assertEqual(last(code(1, X), run_row([0, 9])), [0, 1, 0, 1])

    def test_each_input_is_its_own(self):
        self.runs([Z, X, Y], [5, 6, 7], 7, 5, 6, out_numbers=[0, 1, 2])

    def test_twelve_inputs(self):
        point = [Fraction(at, 13) for at in range(12)]
        self.runs([(0, at) for at in range(12)], point, *point, out_numbers=range(12))

    def test_inputs_that_no_line_uses(self):
        self.runs([Y], [1, 2, 3], 2)
        self.runs([const(4)], [1, 2, 3], 4)

    def test_constants_not_in_lowest_terms(self):
        self.runs([const(6, 4)], [], Fraction(3, 2))
        self.runs([const(0, 4), const(-9, 3)], [], 0, -3, out_numbers=[0, 1])

    def test_points_not_in_lowest_terms(self):
        answered = last(code(2, X, Y, (4, 0, 1)), outs(0, 1, 2), run_row([6, 4, -10, 5]))
        self.assertEqual(answered, [0, 3, 3, 2, -2, 1, -3, 1])
        self.assertEqual(last(code(1, X), run_row([NUMBER_MOST, NUMBER_MOST])), [0, 1, 1, 1])
        self.assertEqual(last(code(1, X), run_row([0, NUMBER_MOST])), [0, 1, 0, 1])

    def test_points_at_the_bounds(self):
        for row in ([NUMBER_MOST, 1], [-NUMBER_MOST, 1], [1, NUMBER_MOST], [NUMBER_MOST - 1, NUMBER_MOST]):
            self.assertEqual(last(code(1, X), run_row(row)), [0, 1, *row])

    def test_outs_in_their_order(self):
        self.runs([X, Y, (2, 0, 1)], [3, 4], 7, 3, 4, out_numbers=[2, 0, 1])

    def test_outs_told_more_than_once(self):
        self.runs([X, Y], [3, 4], 4, 4, 3, 4, out_numbers=[1, 1, 0, 1])
        self.runs([X], [3], *[3] * 12, out_numbers=[0] * 12)

    def test_no_outs(self):
        self.runs([X, Y], [3, 4], out_numbers=[])

    def test_the_example(self):
        for x in (0, 1, Fraction(-7, 3)):
            self.runs(EXAMPLE, [x], x, 0, x, x * x, x * x, 0, out_numbers=range(6))

    def test_80_lines(self):
        self.runs([X] + [(2, at, at) for at in range(79)], [3], 3 * 2 ** 79)

    def test_the_code_stays_as_it_is(self):
        answered = ask(code(1, X, (5, 0, 0)), outs(1, 0), run(2), run(0), held(), run(2))
        self.assertEqual(answered[2:], [worth(1, 2), [1, 1, 1], told([X, (5, 0, 0)], [1, 0]), worth(1, 2)])


class Faults(unittest.TestCase):
    def fails(self, line, fault, lines, point=(), out_numbers=None):
        start = [code(len(point), *lines)] + ([] if out_numbers is None else [outs(*out_numbers)])
        with self.subTest(lines=lines, point=point, outs=out_numbers):
            self.assertEqual(last(*start, run(*point)), [1, line, fault])

    def test_division_by_0(self):
        self.fails(1, BY_ZERO, [X, (5, 0, 0)], [0])
        self.fails(2, BY_ZERO, [X, Y, (5, 0, 1)], [1, 0])
        self.fails(2, BY_ZERO, [X, const(0, 3), (5, 0, 1)], [1])
        self.fails(2, BY_ZERO, [const(5), (3, 0, 0), (5, 0, 1)])

    def test_0_divided_is_no_fault(self):
        self.assertEqual(last(code(2, X, Y, (5, 0, 1)), run(0, -5)), worth(0))

    def test_in_a_line_that_no_out_needs(self):
        for numbers in ([0], [], [0, 0]):
            self.fails(1, BY_ZERO, [X, (5, 0, 0)], [0], numbers)
        self.fails(1, BY_ZERO, [X, (5, 0, 0), const(4)], [0])
        self.fails(3, TOO_HEAVY, [X, (4, 0, 0), (4, 1, 0), (4, 2, 1)], [2 ** 50], [0])

    def test_the_first_line_is_told(self):
        self.fails(1, BY_ZERO, [X, (5, 0, 0), (5, 0, 0), (5, 1, 0)], [0])
        heavy = [X, (4, 0, 0), (4, 1, 1)]
        self.fails(2, TOO_HEAVY, heavy + [(3, 0, 0), (5, 0, 3)], [2 ** 59])
        self.fails(2, BY_ZERO, [X, (3, 0, 0), (5, 0, 1), (4, 0, 0), (4, 3, 3)], [2 ** 59])

    def test_the_line_is_told_by_its_number_not_by_the_outs(self):
        self.fails(3, BY_ZERO, [Y, X, const(0), (5, 0, 2), X], [1, 2], [4, 0])

    def test_a_fault_at_one_point_alone(self):
        calls = [code(1, X, const(3), (3, 0, 1), (5, 1, 2)), run(3), run(4), run(2), run_row([6, 2])]
        self.assertEqual(ask(*calls)[1:], [[1, 3, 1], worth(3), worth(-3), [1, 3, 1]])


class Weight(unittest.TestCase):
    """2 ** 198 has 199 binary digits, and its denominator 1: just 200."""

    # Line 3 is 2 ** 177 where the input is 2 ** 59.
    START = [X, (4, 0, 0), const(1), (4, 1, 0)]
    POINT = 2 ** 59

    def at_most(self, lines, value):
        self.assertEqual(last(code(1, *self.START, *lines), run(self.POINT)), worth(value))

    def above(self, *lines):
        line = len(self.START) + len(lines) - 1
        self.assertEqual(last(code(1, *self.START, *lines), run(self.POINT)), [1, line, TOO_HEAVY])

    def test_200_is_no_fault(self):
        self.at_most([const(2 ** 21), (4, 3, 4)], 2 ** 198)
        self.at_most([const(-(2 ** 21)), (4, 3, 4)], -(2 ** 198))
        self.at_most([const(2 ** 21), (4, 3, 4), (6, 5)], -(2 ** 198))
        self.at_most([const(2 ** 21), (4, 3, 4), (5, 2, 5)], Fraction(1, 2 ** 198))
        self.at_most([const(2 ** 21), (4, 3, 4), (3, 5, 2)], 2 ** 198 - 1)
        self.at_most([const(2 ** 20), (4, 3, 4), (2, 5, 5)], 2 ** 198)

    def test_201_is_a_fault(self):
        self.above(const(2 ** 22), (4, 3, 4))
        self.above(const(-(2 ** 22)), (4, 3, 4))
        self.above(const(2 ** 21), (4, 3, 4), (2, 5, 5))
        self.above(const(2 ** 21), (4, 3, 4), (6, 5), (3, 6, 5))
        self.above(const(2 ** 21), (4, 3, 4), const(3), (5, 6, 5))
        self.above(const(2 ** 21), (4, 3, 4), const(1, 2), (5, 6, 5))

    def test_numerator_and_denominator_count_together(self):
        # 2 ** 118 over 3 ** 37 has 119 and 59 digits.
        start = [X, (4, 0, 0), const(1, 3 ** 37), (4, 1, 2)]
        point = run(2 ** 59)
        self.assertEqual(last(code(1, *start, const(2 ** 22), (4, 3, 4)), point), worth(Fraction(2 ** 140, 3 ** 37)))
        self.assertEqual(last(code(1, *start, const(2 ** 23), (4, 3, 4)), point), [1, 5, TOO_HEAVY])

    def test_it_is_told_in_lowest_terms(self):
        # Above 200 before they're put in lowest terms.
        self.at_most([(5, 3, 3)], 1)
        self.at_most([const(1, 2 ** 58), (4, 3, 4)], 2 ** 119)
        self.at_most([(3, 3, 3)], 0)

    def test_a_heavy_line_on_the_way_is_a_fault(self):
        heavy = [*self.START, (4, 3, 3), (5, 4, 3)]
        self.assertEqual(last(code(1, *heavy), run(self.POINT)), [1, 4, TOO_HEAVY])

    def test_all_inputs_and_constants_are_light_enough(self):
        most = Fraction(NUMBER_MOST - 1, NUMBER_MOST)
        answered = last(code(1, X, const(NUMBER_MOST - 1, NUMBER_MOST)), outs(0, 1), run(most))
        self.assertEqual(answered, worth(most, most))

    def test_folded_constants_of_200_are_no_fault(self):
        lines = [const(2 ** 59), (4, 0, 0), (4, 1, 0), const(2 ** 21), (4, 2, 3)]
        for mode in range(16):
            self.assertEqual(last(code(0, *lines), take(mode), run()), worth(2 ** 198))


class Refused(unittest.TestCase):
    def refused(self, n, *rows):
        lines = [(0, at) for at in range(n)] + [const(5)]
        for row in rows:
            with self.subTest(n=n, row=row):
                answered = ask(code(n, *lines), run_row(row), held(), run(*range(n)))
                self.assertEqual(answered[1:], [[-2], told(lines, [n]), worth(5)])

    def test_too_few(self):
        self.refused(1, [])
        self.refused(2, [], [1, 1])
        self.refused(12, [1, 1] * 11)

    def test_too_many(self):
        self.refused(0, [1, 1], [0, 1])
        self.refused(1, [1, 1] * 2)
        self.refused(12, [1, 1] * 13, [1, 1] * 100)

    def test_odd_counts(self):
        self.refused(0, [1])
        self.refused(1, [1], [1, 1, 1])
        self.refused(2, [1, 1, 1], [1, 1, 1, 1, 1])

    def test_denominators(self):
        for bottom in (0, -1, -2, -NUMBER_MOST):
            self.refused(1, [1, bottom], [0, bottom])
            self.refused(2, [1, 1, 1, bottom], [1, bottom, 1, 1])

    def test_without_code(self):
        self.assertEqual(ask(run_row([1]), run_row([1, 1]), run_row([0, 0]), run()), [[-2], [-2], [-2], [0, 0]])

    def test_a_wrong_point_comes_before_a_fault(self):
        calls = [code(0, const(0), (5, 0, 0)), run_row([1, 1]), run()]
        self.assertEqual(ask(*calls)[1:], [[-2], [1, 1, BY_ZERO]])

    def test_inputs_of_the_newest_code_count(self):
        self.assertEqual(ask(code(2, X), code(1, X), run(1, 2), run(1))[2:], [[-2], worth(1)])
        self.assertEqual(ask(code(2, X), code(13), code(1, Y), run(1, 2), run(1))[3:], [worth(1), [-2]])


if __name__ == "__main__":
    unittest.main()
