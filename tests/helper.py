"""Calls written as the tests want them, and their answers taken apart."""

import unittest
from fractions import Fraction

from smallcode.desk import answers

NUMBER_MOST = 10 ** 18

X = (0, 0)
Y = (0, 1)
Z = (0, 2)


def const(top, bottom=1):
    return (1, top, bottom)


def flat(lines):
    return [number for line in lines for number in line]


def code(n, *lines):
    return code_row(n, flat(lines))


def code_row(n, row):
    return [0, n, len(row), *row]


def outs(*numbers):
    return [1, len(numbers), *numbers]


def small(m):
    return [2, m]


def went(m):
    return [3, m]


def counts(m):
    return [4, m]


def alike(m, i, j):
    return [5, m, i, j]


def take(m):
    return [6, m]


def held():
    """The call lines, under a name that leaves lines free."""
    return [7]


def run_row(row):
    return [8, len(row), *row]


def run(*point):
    """The call run, at whole numbers and fractions."""
    return run_row([number for value in point for number in Fraction(value).as_integer_ratio()])


def ask(*calls):
    """The answers to these calls on one new object, a list each."""
    given = answers(flat(calls))
    each = []
    at = 0
    while at < len(given):
        length = given[at]
        each.append(given[at + 1:at + 1 + length])
        at += 1 + length
    if at != len(given) or len(each) != len(calls):
        raise AssertionError(f"not {len(calls)} answers: {given}")
    return each


def last(*calls):
    return ask(*calls)[-1]


def told(lines, out_numbers):
    """What small answers for these lines and outs."""
    return [len(lines), *flat(lines), len(out_numbers), *out_numbers]


def worth(*values):
    """What run answers where the outs have these values."""
    return [0, len(values), *[number for value in values for number in Fraction(value).as_integer_ratio()]]


def remade(mode, lines, out_numbers=None, n=3):
    """The answers of small and map by the mode, of code that must be taken."""
    calls = [code(n, *lines)]
    if out_numbers is not None:
        calls.append(outs(*out_numbers))
    answered = ask(*calls, small(mode), went(mode))
    if answered[0] != [len(lines)]:
        raise AssertionError(f"the code is refused: {answered[0]}")
    return answered[-2], answered[-1]


EXAMPLE = (X, const(0), (2, 0, 1), (4, 2, 0), (4, 0, 0), (3, 3, 4))


class Making(unittest.TestCase):
    """What the tests of small and map stand on; it has no test itself."""

    def makes(self, mode, lines, new_lines, places, out_numbers=None):
        """The mode makes new_lines of the lines, and each line goes to its place."""
        with self.subTest(mode=mode, lines=lines):
            shown = [len(lines) - 1] if out_numbers is None else out_numbers
            made, mapped = remade(mode, lines, out_numbers)
            self.assertEqual(mapped, [len(lines), *places])
            self.assertEqual(made, told(new_lines, [places[out] for out in shown]))
