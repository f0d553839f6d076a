"""Promises 3 and 4: shared lines."""

import unittest

from tests.helper import X, Y, Z, Making, const

OTHER_MODES = (0, 2, 4, 6)


class Share(Making):
    def test_inputs_and_constants(self):
        lines = [X, Y, X, const(3), const(2), const(3), Y]
        self.makes(1, lines, [X, Y, const(3), const(2)], [0, 1, 0, 2, 3, 2, 1])

    def test_each_operation(self):
        for kind in (2, 3, 4, 5):
            lines = [X, Y, (kind, 0, 1), (kind, 0, 1), (kind, 0, 0)]
            self.makes(1, lines, [X, Y, (kind, 0, 1), (kind, 0, 0)], [0, 1, 2, 2, 3])
        self.makes(1, [X, Y, (6, 0), (6, 1), (6, 0)], [X, Y, (6, 0), (6, 1)], [0, 1, 2, 3, 2])

    def test_kinds_are_not_taken_for_one_another(self):
        lines = [X, Y, (2, 0, 1), (3, 0, 1), (4, 0, 1), (5, 0, 1), const(0), const(1), (6, 0), (6, 1)]
        self.makes(1, lines, lines, range(10))

    def test_sums_and_products_with_their_lines_changed(self):
        for kind in (2, 4):
            self.makes(1, [X, Y, (kind, 0, 1), (kind, 1, 0)], [X, Y, (kind, 0, 1)], [0, 1, 2, 2])
            self.makes(1, [X, Y, (kind, 1, 0), (kind, 0, 1)], [X, Y, (kind, 0, 1)], [0, 1, 2, 2])

    def test_they_are_changed_where_nothing_is_shared_too(self):
        for kind in (2, 4):
            self.makes(1, [X, Y, (kind, 1, 0)], [X, Y, (kind, 0, 1)], [0, 1, 2])

    def test_differences_and_quotients_are_not_changed(self):
        for kind in (3, 5):
            lines = [X, Y, (kind, 1, 0), (kind, 0, 1)]
            self.makes(1, lines, lines, range(4))

    def test_new_numbers_decide(self):
        # Line 2 goes to line 0, so line 1 has the greater number.
        self.makes(1, [X, Y, X, (2, 1, 2), (2, 2, 1)], [X, Y, (2, 0, 1)], [0, 1, 0, 2, 2])
        self.makes(1, [X, Y, X, (4, 2, 1), (4, 1, 2)], [X, Y, (4, 0, 1)], [0, 1, 0, 2, 2])

    def test_sharing_leads_on(self):
        lines = [X, Y, Z, (2, 0, 1), (2, 1, 0), (4, 2, 3), (4, 4, 2), (3, 5, 6)]
        made = [X, Y, Z, (2, 0, 1), (4, 2, 3), (3, 4, 4)]
        self.makes(1, lines, made, [0, 1, 2, 3, 3, 4, 4, 5])
        self.makes(5, lines, made[:-1] + [const(0)], [0, 1, 2, 3, 3, 4, 4, 5])

    def test_folded_constants_are_shared(self):
        lines = [const(2), const(4), (2, 0, 0), (3, 1, 0), const(8, 2)]
        self.makes(3, lines, [const(2), const(4)], [0, 1, 1, 0, 1])

    def test_faulty_divisions_are_shared(self):
        lines = [X, const(0), (5, 0, 1), (5, 0, 1)]
        for mode in (1, 3, 5, 7):
            self.makes(mode, lines, lines[:3], [0, 1, 2, 2])

    def test_not_without_the_mode(self):
        lines = [X, Y, X, const(3), const(3), (2, 1, 0), (2, 0, 1), (4, 1, 0), (4, 1, 0), (3, 0, 1), (3, 0, 1), (6, 0),
                 (6, 0)]
        for mode in OTHER_MODES:
            self.makes(mode, lines, lines, range(len(lines)))


if __name__ == "__main__":
    unittest.main()
