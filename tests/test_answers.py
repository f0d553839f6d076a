"""The interface: one list of calls, one list of answers."""

import unittest

from smallcode.desk import UnknownCall, answers
from tests.helper import (EXAMPLE, X, Y, alike, ask, code, code_row, const, counts, flat, held, last, outs, run,
                          run_row, small, take, told, went, worth)

MANY = (
    small(15), went(3), counts(0), outs(), outs(0), code(1, *EXAMPLE), small(15), small(16), code(13), small(7),
    outs(2, 3), counts(8), went(8), outs(6), small(8), code(2, X, Y), went(15), code(0), counts(15), small(0),
)
MANY_ANSWERED = [
    [0, 0], [0], [0] * 6, [0], [-2], [6], [1, 1, 0, 1, 1, 0], [-1], [-1], [3, 0, 0, 1, 0, 1, 4, 0, 0, 1, 1],
    [2], [6, 4, 3, 4, 2, 2], [6, 0, 1, 2, 3, -1, -1], [-2], [4, 0, 0, 1, 0, 1, 2, 0, 1, 4, 2, 0, 2, 2, 3], [2],
    [2, -1, 0], [0], [0] * 6, [0, 0],
]

# All nine calls, with what each answers beside it. The last leaves the object as a new one is.
ALL_NINE = (
    (run(), [0, 0]), (held(), [0, 0]), (take(15), [0]), (alike(0, 0, 0), [-1]), (run(1), [-2]),
    (code(1, *EXAMPLE), [6]), (run(3), worth(0)), (alike(15, 3, 4), [1]), (alike(2, 3, 4), [0]),
    (outs(3, 5, 2), [3]), (run(3), worth(9, 0, 3)), (counts(7), [6, 4, 3, 3, 1, 1]), (take(16), [-1]),
    (take(5), [3]), (held(), [3, 0, 0, 1, 0, 1, 4, 0, 0, 3, 2, 1, 0]), (run(3), worth(9, 0, 3)), (outs(3), [-2]),
    (went(8), [3, 0, 1, 2]), (alike(15, 3, 4), [-1]), (outs(2), [1]), (small(8), [2, 0, 0, 4, 0, 0, 1, 1]),
    (take(8), [2]), (counts(0), [2, 1, 1, 2, 1, 1]), (run(-4), worth(16)), (run(1, 2), [-2]), (code(0, X), [-3]),
    (held(), [2, 0, 0, 4, 0, 0, 1, 1]), (code(2, X, Y, (5, 0, 1)), [3]), (run(1, 0), [1, 2, 1]),
    (run(1, 2), [0, 1, 1, 2]), (outs(), [0]), (run(1, 0), [1, 2, 1]), (take(8), [0]), (run(1, 0), [0, 0]),
    (held(), [0, 0]), (code(0), [0]),
)


class Answers(unittest.TestCase):
    def test_number_by_number(self):
        calls = [0, 1, 17, 0, 0, 1, 0, 1, 2, 0, 1, 4, 2, 0, 4, 0, 0, 3, 3, 4, 2, 15, 3, 7, 4, 7, 2, 16, 1, 1, 6, 1, 0]
        expected = [1, 6, 6, 1, 1, 0, 1, 1, 0, 7, 6, 0, 1, 0, 2, 2, 1, 6, 6, 4, 3, 3, 1, 1, 1, -1, 1, -2, 1, 0]
        self.assertEqual(answers(calls), expected)

    def test_several_calls_in_any_order(self):
        self.assertEqual(ask(*MANY), MANY_ANSWERED)

    def test_all_nine_number_by_number(self):
        calls_and_answers = (
            ([0, 2, 10, 0, 1, 1, 2, 4, 5, 0, 1, 0, 0], [1, 4]),
            ([5, 15, 0, 0], [1, 1]),
            ([8, 4, 3, 1, 6, 4], [4, 0, 1, 3, 1]),
            ([1, 2, 2, 0], [1, 2]),
            ([8, 4, 3, 1, 6, 4], [6, 0, 2, 3, 1, 3, 2]),
            ([6, 8], [1, 3]),
            ([7], [12, 3, 0, 1, 1, 1, 2, 5, 0, 1, 2, 2, 0]),
            ([2, 0], [12, 3, 0, 1, 1, 1, 2, 5, 0, 1, 2, 2, 0]),
            ([8, 0], [1, -2]),
            ([3, 0], [4, 3, 0, 1, 2]),
            ([4, 0], [6, 3, 1, 1, 3, 1, 1]),
            ([5, 16, 0, 0], [1, -1]),
            ([0, 0, 6, 1, 0, 1, 5, 0, 0], [1, 2]),
            ([8, 0], [3, 1, 1, 1]),
        )
        calls = flat([call for call, _ in calls_and_answers])
        self.assertEqual(answers(calls), flat([answer for _, answer in calls_and_answers]))

    def test_all_nine_in_one_list(self):
        self.assertEqual(ask(*[call for call, _ in ALL_NINE]), [answer for _, answer in ALL_NINE])

    def test_a_refused_code_is_gone_through_whole(self):
        row = [9, 2, 15, 3, 0]
        self.assertEqual(ask(code(1, X), code_row(1, row), code_row(13, row), outs(5, 2, 15), small(0)),
                         [[1], [-2], [-1], [-2], told([X], [0])])

    def test_the_list_that_is_handed_in_stays(self):
        calls = flat(MANY)
        before = list(calls)
        answers(calls)
        self.assertEqual(calls, before)

    def test_two_times_the_same(self):
        calls = flat(MANY)
        first = answers(calls)
        kept = list(first)
        second = answers(calls)
        self.assertEqual(second, kept)
        self.assertEqual(first, kept)
        self.assertIsNot(first, second)

    def test_nothing_is_kept_from_one_time_to_the_next(self):
        answers(flat([code(1, *EXAMPLE), outs(1, 2)]))
        self.assertEqual(answers([2, 0, 3, 0]), [2, 0, 0, 1, 0])

    def test_whole_numbers_in_a_list(self):
        given = answers(flat(MANY))
        self.assertIs(type(given), list)
        self.assertEqual({type(number) for number in given}, {int})

    def test_all_nine_two_times_the_same(self):
        calls = flat([call for call, _ in ALL_NINE])
        before = list(calls)
        first = answers(calls)
        self.assertEqual(calls, before)
        self.assertEqual(answers(calls), first)
        self.assertEqual({type(number) for number in first}, {int})

    def test_after_take_nothing_is_kept_for_the_next_time(self):
        answers(flat([code(1, *EXAMPLE), take(15)]))
        self.assertEqual(answers([7, 8, 0]), [2, 0, 0, 2, 0, 0])

    def test_400_calls(self):
        lines = [X] + [(2, at, at) for at in range(79)]
        calls = [code(1, *lines)] + [small(15)] * 399
        self.assertEqual(ask(*calls), [[80]] + [told(lines, [79])] * 399)

    def test_400_calls_with_long_constants(self):
        lines = [const(10 ** 18, 10 ** 18 - 1)] + [(4, at, 0) for at in range(79)]
        calls = [code(0, *lines)] + [counts(15)] * 399
        self.assertEqual(len(ask(*calls)), 400)

    def test_400_calls_of_all_nine(self):
        whole = (ALL_NINE * 12)[:400]
        self.assertEqual(len(whole), 400)
        self.assertEqual(ask(*[call for call, _ in whole]), [answer for _, answer in whole])

    def test_400_runs_and_takes(self):
        lines = [X] + [(2, at, at) for at in range(79)]
        calls = [code(1, *lines)] + [run(3), take(15), held()] * 133
        expected = [[80]] + [worth(3 * 2 ** 79), [80], told(lines, [79])] * 133
        self.assertEqual(ask(*calls), expected)

    def test_a_number_of_no_call(self):
        for call in (-1, 9, 10 ** 18):
            with self.assertRaises(UnknownCall):
                answers([2, 0, call])


class NothingChanged(unittest.TestCase):
    """The object before and behind a call that mustn't change it, told by all that tells."""

    LINES = (X, const(2, 4), X, (2, 0, 1), (2, 1, 2), (3, 3, 4), (2, 5, 0))
    STARTS = (
        (),
        (code(2),),
        (code(2, *LINES),),
        (code(2, *LINES), outs(4, 3, 4)),
        (code(2, *LINES), outs(4, 0), take(1)),
        (code(2, *LINES), outs(), take(8)),
    )
    SHOWN = (held(), run(3, 4), run(), run(5), small(7), went(15), counts(1), alike(1, 0, 2), alike(0, 3, 4))

    def unchanged(self, call, answer=None):
        for start in self.STARTS:
            with self.subTest(start=start, call=call):
                before = ask(*start, *self.SHOWN)
                between = ask(*start, call, *self.SHOWN)
                answered = between.pop(len(start))
                self.assertEqual(between, before)
                if answer is not None:
                    self.assertEqual(answered, answer)

    def test_by_what_only_tells(self):
        for mode in range(16):
            for call in (small(mode), went(mode), counts(mode), alike(mode, 0, 1), alike(mode, 3, 4)):
                self.unchanged(call)
        for call in (held(), run(), run(1), run(3, 4), run(0, 0)):
            self.unchanged(call)

    def test_by_refusals(self):
        for mode in (-1, 16):
            for call in (small(mode), went(mode), counts(mode), alike(mode, 0, 0), take(mode)):
                self.unchanged(call, [-1])
        for call in (code(-1), code(13), code(13, X), alike(0, -1, 0), alike(0, 0, -1), alike(0, 80, 0),
                     alike(0, 0, 80)):
            self.unchanged(call, [-1])
        for call in (code_row(1, [7]), code_row(1, [0, 0, 2, 0]), code(1, X, const(1, 0)), outs(*[0] * 13), outs(-1),
                     outs(80), run(1, 2, 3), run_row([1]), run_row([1, 1, 1, 0]), run_row([1, -2, 1, 1])):
            self.unchanged(call, [-2])
        self.unchanged(code(1, *[X] * 81), [-7])
        for call in (code(1, Y), code(0, X), code(1, (6, 0)), code(1, X, (2, 0, 1))):
            self.unchanged(call, [-3])

    def test_refusals_in_their_order(self):
        # Each has what the next one has, and one thing more that's wrong.
        many = [0, 1] * 81
        for start in self.STARTS:
            for row, n, answer in ((many + [7], 13, -1), (many + [7], 1, -2), (many, 1, -7), (many[:160], 1, -3)):
                self.assertEqual(last(*start, code_row(n, row)), [answer])
            self.assertEqual(last(*start, code_row(2, many[:160])), [80])


if __name__ == "__main__":
    unittest.main()
