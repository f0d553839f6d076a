"""Promises 3 and 4: the folds."""

import unittest

from tests.helper import X, Making, const


class Fold(Making):
    def folds(self, line, value, first=const(3, 4), second=const(-5, 6)):
        for mode in (2, 6):
            self.makes(mode, [first, second, line], [first, second, value], [0, 1, 2])

    def test_each_operation(self):
        self.folds((2, 0, 1), const(-1, 12))
        self.folds((3, 0, 1), const(19, 12))
        self.folds((4, 0, 1), const(-5, 8))
        self.folds((5, 0, 1), const(-9, 10))
        self.folds((5, 1, 0), const(-10, 9))
        self.folds((6, 0), const(-3, 4))
        self.folds((6, 1), const(5, 6))

    def test_in_lowest_terms(self):
        self.folds((2, 0, 1), const(1), const(1, 6), const(5, 6))
        self.folds((3, 0, 0), const(0))
        self.folds((4, 0, 1), const(1), const(2, 3), const(3, 2))
        self.folds((5, 0, 1), const(2), const(-4, 3), const(-2, 3))
        self.folds((5, 0, 1), const(0), const(0), const(-2, 3))
        self.folds((6, 0), const(0), const(0))

    def test_folds_lead_on(self):
        lines = [const(2), const(3), (4, 0, 1), (2, 2, 0), (6, 3)]
        self.makes(2, lines, [const(2), const(3), const(6), const(8), const(-8)], [0, 1, 2, 3, 4])

    def test_not_where_one_line_is_no_constant(self):
        for kind in (2, 3, 4, 5):
            lines = [X, const(2), (kind, 0, 1), (kind, 1, 0), (kind, 0, 0), (6, 0)]
            self.makes(2, lines, lines, [0, 1, 2, 3, 4, 5])

    def test_not_without_the_mode(self):
        lines = [const(2), const(3), (2, 0, 1), (3, 0, 1), (4, 0, 1), (5, 0, 1), (6, 0)]
        for mode in (0, 1, 4, 5):
            self.makes(mode, lines, lines, [0, 1, 2, 3, 4, 5, 6])

    def test_division_by_0_stays(self):
        for top in (const(0), const(5), const(-1), const(1)):
            lines = [top, const(0), (5, 0, 1), (5, 1, 1), (2, 2, 0)]
            for mode in (2, 10):
                self.makes(mode, lines, lines, [0, 1, 2, 3, 4], [0, 1, 2, 3, 4])

    def test_division_by_a_folded_0_stays(self):
        lines = [const(3), (3, 0, 0), (5, 0, 1), (4, 2, 1)]
        self.makes(2, lines, [const(3), const(0), (5, 0, 1), (4, 2, 1)], [0, 1, 2, 3])
        self.makes(6, lines, [const(3), const(0), (5, 0, 1), const(0)], [0, 1, 2, 3])

    def test_fold_comes_before_identities(self):
        # An identity would lead to a line that's there; a fold puts a constant.
        self.makes(4, [const(0), const(5), (2, 0, 1)], [const(0), const(5)], [0, 1, 1])
        self.makes(6, [const(0), const(5), (2, 0, 1)], [const(0), const(5), const(5)], [0, 1, 2])
        self.makes(6, [const(1), const(5), (4, 0, 1)], [const(1), const(5), const(5)], [0, 1, 2])
        self.makes(6, [const(-1), const(5), (4, 0, 1)], [const(-1), const(5), const(-5)], [0, 1, 2])
        self.makes(6, [const(5), const(1), (5, 0, 1)], [const(5), const(1), const(5)], [0, 1, 2])
        self.makes(6, [const(5), (6, 0), (6, 1)], [const(5), const(-5), const(5)], [0, 1, 2])


class FoldWeight(Making):
    """2 ** 198 has 199 binary digits, and 1 below it: just 200."""

    START = [const(2 ** 59), (4, 0, 0), (4, 1, 0), const(2 ** 21)]
    MADE = [const(2 ** 59), const(2 ** 118), const(2 ** 177), const(2 ** 21)]

    def weighs(self, lines, made):
        for mode in (2, 3, 6, 7):
            self.makes(mode, self.START + lines, self.MADE + made, range(4 + len(lines)))

    def test_200_is_folded(self):
        self.weighs([(4, 2, 3)], [const(2 ** 198)])
        self.weighs([(4, 2, 3), (6, 4)], [const(2 ** 198), const(-(2 ** 198))])
        self.weighs([(4, 2, 3), const(1), (5, 5, 4)], [const(2 ** 198), const(1), const(1, 2 ** 198)])
        self.weighs([(4, 2, 3), const(-1), (2, 4, 5)], [const(2 ** 198), const(-1), const(2 ** 198 - 1)])

    def test_201_is_not_folded(self):
        self.weighs([const(2 ** 22), (4, 2, 4)], [const(2 ** 22), (4, 2, 4)])
        self.weighs([const(-(2 ** 22)), (4, 2, 4)], [const(-(2 ** 22)), (4, 2, 4)])
        self.weighs([(4, 2, 3), (2, 4, 4)], [const(2 ** 198), (2, 4, 4)])
        self.weighs([(4, 2, 3), const(3), (5, 5, 4)], [const(2 ** 198), const(3), (5, 5, 4)])
        self.weighs([(4, 2, 3), const(1, 2), (5, 5, 4)], [const(2 ** 198), const(1, 2), (5, 5, 4)])

    def test_the_weight_is_told_in_lowest_terms(self):
        # 2 ** 177 over 2 ** 58 is above 200 before it's put in lowest terms.
        self.weighs([const(1, 2 ** 58), (4, 2, 4)], [const(1, 2 ** 58), const(2 ** 119)])
        self.weighs([(5, 2, 2), (3, 2, 2)], [const(1), const(0)])

    def test_what_is_not_folded_is_no_constant(self):
        lines = [(4, 2, 3), (2, 4, 4), (6, 5), (4, 5, 3), (3, 5, 5)]
        made = [const(2 ** 198), (2, 4, 4), (6, 5), (4, 5, 3), (3, 5, 5)]
        self.makes(2, self.START + lines, self.MADE + made, range(9))


if __name__ == "__main__":
    unittest.main()
