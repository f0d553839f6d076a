"""Promises 3 and 4: each identity, their order, and where one leads to another."""

import unittest

from tests.helper import X, Y, Z, Making, const

XY = [X, Y]


class Identities(Making):
    """Lines 0 and 1 are the inputs x and y where XY is the beginning."""

    def becomes(self, lines, line, beginning=()):
        """The last line is put as this line, all others as they are."""
        whole = [*beginning, *lines]
        self.makes(4, whole, whole[:-1] + [line], range(len(whole)))

    def goes_to(self, lines, number, beginning=()):
        """The last line goes to the line with this number, and nothing is put."""
        whole = [*beginning, *lines]
        self.makes(4, whole, whole[:-1], [*range(len(whole) - 1), number])

    def stays(self, lines, beginning=()):
        self.becomes(lines, lines[-1], beginning)


class Sums(Identities):
    def test_0_first(self):
        self.goes_to([const(0), X, (2, 0, 1)], 1)

    def test_0_second(self):
        self.goes_to([X, const(0), (2, 0, 1)], 0)

    def test_two_zeros_go_to_the_second(self):
        self.goes_to([const(0), const(0), (2, 0, 1)], 1)
        self.goes_to([const(0), const(0), (2, 1, 0)], 0)

    def test_0_and_a_negative_go_to_the_negative(self):
        self.goes_to([X, (6, 0), const(0), (2, 2, 1)], 1)
        self.goes_to([X, (6, 0), const(0), (2, 1, 2)], 1)

    def test_a_negative_second(self):
        self.becomes([(6, 1), (2, 0, 2)], (3, 0, 1), XY)

    def test_a_negative_first(self):
        self.becomes([(6, 0), (2, 2, 1)], (3, 1, 0), XY)

    def test_two_negatives_take_the_second(self):
        self.becomes([(6, 0), (6, 1), (2, 2, 3)], (3, 2, 1), XY)
        self.becomes([(6, 0), (6, 1), (2, 3, 2)], (3, 3, 0), XY)

    def test_a_line_and_its_negative_lead_to_0(self):
        self.becomes([X, (6, 0), (2, 0, 1)], const(0))
        self.becomes([X, (6, 0), (2, 1, 0)], const(0))

    def test_others_stay(self):
        self.stays([(2, 0, 1)], XY)
        self.stays([(2, 0, 0)], XY)
        self.stays([X, const(1), (2, 0, 1)])
        self.stays([X, const(-1), (2, 0, 1)])
        self.stays([X, const(-5), (2, 1, 0)])


class Differences(Identities):
    def test_0_second(self):
        self.goes_to([X, const(0), (3, 0, 1)], 0)

    def test_0_minus_0_goes_to_the_first(self):
        self.goes_to([const(0), const(0), (3, 0, 1)], 0)
        self.goes_to([const(0), const(0), (3, 1, 0)], 1)
        self.goes_to([const(0), (3, 0, 0)], 0)

    def test_the_same_line(self):
        self.becomes([X, (3, 0, 0)], const(0))
        self.becomes([X, (6, 0), (3, 1, 1)], const(0))
        self.becomes([const(5), (3, 0, 0)], const(0))

    def test_lines_that_are_only_alike_are_not_the_same(self):
        self.stays([X, X, (3, 0, 1)])
        self.stays([const(5), const(5), (3, 0, 1)])

    def test_0_first(self):
        self.becomes([const(0), X, (3, 0, 1)], (6, 1))

    def test_0_minus_a_negative_leads_to_the_line(self):
        self.goes_to([X, (6, 0), const(0), (3, 2, 1)], 0)

    def test_0_minus_a_difference_leads_to_the_other_difference(self):
        self.becomes([(3, 0, 1), const(0), (3, 3, 2)], (3, 1, 0), XY)

    def test_a_negative_second(self):
        self.becomes([(6, 1), (3, 0, 2)], (2, 0, 1), XY)
        self.becomes([(6, 0), (3, 0, 2)], (2, 0, 0), XY)

    def test_two_negatives_lead_to_a_difference(self):
        self.becomes([(6, 0), (6, 1), (3, 2, 3)], (3, 1, 0), XY)

    def test_two_negatives_of_one_line_lead_to_0(self):
        # -x - -x of two lines: -x + x, then x - x.
        self.becomes([X, (6, 0), (6, 0), (3, 1, 2)], const(0))

    def test_others_stay(self):
        self.stays([(3, 0, 1)], XY)
        self.stays([(6, 0), (3, 2, 1)], XY)
        self.stays([X, const(1), (3, 0, 1)])
        self.stays([X, const(1), (3, 1, 0)])


class Products(Identities):
    def test_0(self):
        self.becomes([const(0), X, (4, 0, 1)], const(0))
        self.becomes([const(0), X, (4, 1, 0)], const(0))
        self.becomes([const(0), (4, 0, 0)], const(0))

    def test_0_comes_before_1(self):
        for other in (const(1), const(-1)):
            self.becomes([const(0), other, (4, 0, 1)], const(0))
            self.becomes([const(0), other, (4, 1, 0)], const(0))

    def test_1_first(self):
        self.goes_to([const(1), X, (4, 0, 1)], 1)

    def test_1_second(self):
        self.goes_to([const(1), X, (4, 1, 0)], 1)

    def test_1_times_1_goes_to_the_second(self):
        self.goes_to([const(1), const(1), (4, 0, 1)], 1)
        self.goes_to([const(1), const(1), (4, 1, 0)], 0)

    def test_1_comes_before_minus_1(self):
        self.goes_to([const(1), const(-1), (4, 0, 1)], 1)
        self.goes_to([const(1), const(-1), (4, 1, 0)], 1)

    def test_minus_1_first(self):
        self.becomes([const(-1), X, (4, 0, 1)], (6, 1))

    def test_minus_1_second(self):
        self.becomes([const(-1), X, (4, 1, 0)], (6, 1))

    def test_minus_1_times_minus_1_is_the_negative_of_the_second(self):
        self.becomes([const(-1), const(-1), (4, 0, 1)], (6, 1))
        self.becomes([const(-1), const(-1), (4, 1, 0)], (6, 0))

    def test_minus_1_times_a_negative_leads_to_the_line(self):
        self.goes_to([X, (6, 0), const(-1), (4, 1, 2)], 0)
        self.goes_to([X, (6, 0), const(-1), (4, 2, 1)], 0)

    def test_minus_1_times_a_difference_leads_to_the_other_difference(self):
        self.becomes([(3, 0, 1), const(-1), (4, 2, 3)], (3, 1, 0), XY)
        self.becomes([(3, 0, 1), const(-1), (4, 3, 2)], (3, 1, 0), XY)

    def test_others_stay(self):
        self.stays([(4, 0, 1)], XY)
        self.stays([(4, 0, 0)], XY)
        self.stays([(6, 0), (6, 1), (4, 2, 3)], XY)
        for value in (const(2), const(1, 2), const(-1, 2)):
            self.stays([X, value, (4, 0, 1)])


class Quotients(Identities):
    def test_nothing_is_done_with_0_below(self):
        self.stays([X, const(0), (5, 0, 1)])
        self.stays([const(0), (5, 0, 0)])
        self.stays([const(0), const(0), (5, 0, 1)])
        self.stays([const(1), const(0), (5, 0, 1)])

    def test_1_below(self):
        self.goes_to([X, const(1), (5, 0, 1)], 0)

    def test_1_below_comes_before_the_same_line(self):
        self.goes_to([const(1), (5, 0, 0)], 0)
        self.goes_to([const(0), const(1), (5, 0, 1)], 0)

    def test_the_same_line(self):
        self.becomes([X, (5, 0, 0)], const(1))
        self.becomes([const(5), (5, 0, 0)], const(1))
        self.becomes([const(-1), (5, 0, 0)], const(1))

    def test_lines_that_are_only_alike_are_not_the_same(self):
        self.stays([X, X, (5, 0, 1)])
        self.stays([const(5), const(5), (5, 0, 1)])

    def test_0_above(self):
        self.becomes([const(0), X, (5, 0, 1)], const(0))
        self.becomes([const(0), const(5), (5, 0, 1)], const(0))

    def test_0_above_comes_before_minus_1(self):
        self.becomes([const(0), const(-1), (5, 0, 1)], const(0))

    def test_minus_1_below(self):
        self.becomes([X, const(-1), (5, 0, 1)], (6, 0))
        self.becomes([const(-1), const(-1), (5, 0, 1)], (6, 0))

    def test_a_negative_by_minus_1_leads_to_the_line(self):
        self.goes_to([X, (6, 0), const(-1), (5, 1, 2)], 0)

    def test_a_difference_by_minus_1_leads_to_the_other_difference(self):
        self.becomes([(3, 0, 1), const(-1), (5, 2, 3)], (3, 1, 0), XY)

    def test_others_stay(self):
        self.stays([(5, 0, 1)], XY)
        self.stays([X, const(1), (5, 1, 0)])
        self.stays([X, const(-1), (5, 1, 0)])
        self.stays([(6, 0), (5, 2, 0)], XY)
        self.stays([X, const(2), (5, 0, 1)])


class Negatives(Identities):
    def test_of_a_negative(self):
        self.goes_to([X, (6, 0), (6, 1)], 0)

    def test_of_a_difference(self):
        self.becomes([(3, 0, 1), (6, 2)], (3, 1, 0), XY)

    def test_of_a_difference_that_leads_to_a_sum(self):
        # -(-x - y) is y - -x, then y + x.
        self.becomes([(6, 0), (3, 2, 1), (6, 3)], (2, 1, 0), XY)

    def test_others_stay(self):
        self.stays([X, (6, 0)])
        self.stays([const(5), (6, 0)])
        self.stays([const(0), (6, 0)])
        for kind in (2, 4, 5):
            self.stays([(kind, 0, 1), (6, 2)], XY)


class Together(Identities):
    def test_a_line_that_went_elsewhere_is_seen_there(self):
        lines = [X, const(0), (2, 0, 1), (3, 2, 0), (4, 3, 0), (2, 0, 4)]
        self.makes(4, lines, [X, const(0), const(0), const(0)], [0, 1, 0, 2, 3, 0])

    def test_negatives_are_not_looked_for_among_constants(self):
        self.stays([X, const(5), (6, 1), (3, 0, 1)])
        self.becomes([X, const(5), (6, 1), (2, 0, 2)], (3, 0, 1))

    def test_with_fold_a_negative_constant_is_a_constant(self):
        lines = [X, const(5), (6, 1), (2, 0, 2)]
        self.makes(6, lines, [X, const(5), const(-5), (2, 0, 2)], [0, 1, 2, 3])

    def test_with_fold_one_leads_to_the_other(self):
        lines = [X, const(3), const(2), (3, 1, 2), (4, 0, 3), (3, 4, 0), (2, 5, 1)]
        made = [X, const(3), const(2), const(1), const(0), const(3)]
        self.makes(6, lines, made, [0, 1, 2, 3, 0, 4, 5])

    def test_none_without_the_mode(self):
        lines = [X, const(0), const(1), const(-1), (2, 0, 1), (3, 0, 1), (3, 0, 0), (3, 1, 0), (4, 0, 1), (4, 0, 2),
                 (4, 0, 3), (5, 0, 2), (5, 0, 0), (5, 1, 0), (5, 0, 3), (6, 0), (6, 15), (6, 5), (2, 0, 15), (3, 0, 15)]
        for mode in (0, 1, 2, 3):
            self.makes(mode, lines, lines, range(len(lines)))

    def test_with_share_what_it_becomes_is_shared(self):
        lines = [X, Y, (3, 0, 1), (3, 1, 0), (6, 2), (6, 3), (6, 1), (2, 0, 6), (3, 0, 6), (2, 1, 0)]
        made = [X, Y, (3, 0, 1), (3, 1, 0), (6, 1), (2, 0, 1)]
        self.makes(5, lines, made, [0, 1, 2, 3, 3, 2, 4, 2, 5, 5])

    def test_identities_come_before_the_two_are_changed(self):
        # The sum of -y and -x is -y - x, whatever the numbers of the two lines.
        lines = [X, Y, (6, 0), (6, 1), (2, 3, 2)]
        self.makes(5, lines, [X, Y, (6, 0), (6, 1), (3, 3, 0)], [0, 1, 2, 3, 4])

    def test_three_inputs(self):
        lines = [X, Y, Z, (3, 0, 1), (3, 3, 2), (6, 4), (2, 5, 3), (6, 3), (2, 7, 2)]
        made = [X, Y, Z, (3, 0, 1), (3, 3, 2), (3, 2, 3), (2, 5, 3), (3, 1, 0), (2, 7, 2)]
        self.makes(4, lines, made, range(9))


if __name__ == "__main__":
    unittest.main()
