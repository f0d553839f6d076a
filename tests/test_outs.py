"""Promise 2: outs."""

import unittest

from tests.helper import NUMBER_MOST, X, Y, ask, code, last, outs, small, told

LINES = (X, Y, (2, 0, 1))


class Outs(unittest.TestCase):
    def taken(self, *numbers):
        answered = ask(code(2, *LINES), outs(*numbers), small(0))
        self.assertEqual(answered[1:], [[len(numbers)], told(LINES, numbers)])

    def test_none(self):
        self.taken()

    def test_none_without_code(self):
        self.assertEqual(ask(outs(), small(0)), [[0], [0, 0]])

    def test_each_line_in_any_order(self):
        self.taken(0)
        self.taken(2, 0, 1)

    def test_one_more_than_once(self):
        self.taken(1, 1, 0, 1)

    def test_12(self):
        self.taken(*[0, 1, 2] * 4)
        self.taken(*[2] * 12)

    def test_the_newest_count(self):
        self.assertEqual(last(code(2, *LINES), outs(0, 1), outs(1), small(0)), told(LINES, [1]))

    def refused(self, *numbers):
        with self.subTest(numbers=numbers):
            before = told(LINES, [1, 0])
            answered = ask(code(2, *LINES), outs(1, 0), outs(*numbers), small(0))
            self.assertEqual(answered[2:], [[-2], before])

    def test_13_and_more(self):
        self.refused(*[0] * 13)
        self.refused(*[0] * 200)

    def test_numbers_that_are_no_line(self):
        for number in (3, -1, -3, NUMBER_MOST, -NUMBER_MOST):
            self.refused(number)
            self.refused(0, 1, number)
            self.refused(number, 0)

    def test_without_code_every_number_is_wrong(self):
        self.assertEqual(ask(outs(0), small(0)), [[-2], [0, 0]])
        self.assertEqual(ask(code(2), outs(0), outs(-1)), [[0], [-2], [-2]])


if __name__ == "__main__":
    unittest.main()
