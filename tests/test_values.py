"""Promises 3 to 9 over many codes: no value is changed, and the calls agree."""

import random
import unittest
from fractions import Fraction

from tests.helper import NUMBER_MOST, alike, ask, code, counts, held, last, outs, run, small, take, told, went, worth

CODES = 150
INPUTS = 3
CONSTANTS = ((0, 1), (0, 3), (1, 1), (-1, 1), (2, 2), (-4, 4), (2, 1), (-3, 2), (2 ** 59, 1), (1, 3 ** 37))
POINTS = ((0, 1, -1), (2, 3, 5), (Fraction(1, 2), Fraction(-7, 3), 4))


def some_line(chance, at):
    kind = chance.choice((0, 1, 2, 2, 3, 3, 4, 4, 5, 6, 6)) if at > 0 else chance.choice((0, 1))
    if kind == 0:
        return (0, chance.randrange(INPUTS))
    if kind == 1:
        return (1, *chance.choice(CONSTANTS))
    if kind == 6:
        return (6, chance.randrange(at))
    return (kind, chance.randrange(at), chance.randrange(at))


def some_code(chance):
    lines = [some_line(chance, at) for at in range(chance.randrange(1, 81))]
    return lines, [chance.randrange(len(lines)) for _ in range(chance.randrange(13))]


def weight(value):
    return value.numerator.bit_length() + value.denominator.bit_length()


def line_value(line, values, point):
    kind = line[0]
    if kind == 0:
        return Fraction(point[line[1]])
    if kind == 1:
        return Fraction(line[1], line[2])
    first = values[line[1]]
    if kind == 6:
        return -first
    second = values[line[2]]
    if kind == 5:
        return first / second if second != 0 else None
    return first + second if kind == 2 else first - second if kind == 3 else first * second


def values_at(lines, point):
    """The values of the lines up to the first that can't be worked out."""
    values = []
    for line in lines:
        value = line_value(line, values, point)
        if value is None or weight(value) > 200:
            break
        values.append(value)
    return values


def run_answer(lines, out_numbers, point):
    """What run must answer."""
    values = values_at(lines, point)
    if len(values) == len(lines):
        return worth(*[values[out] for out in out_numbers])
    return [1, len(values), 1 if line_value(lines[len(values)], values, point) is None else 2]


def lines_of(row):
    """The lines and the outs that small answered."""
    lines = []
    at = 1
    for _ in range(row[0]):
        length = 2 if row[at] in (0, 6) else 3
        lines.append(tuple(row[at:at + length]))
        at += length
    return lines, row[at + 1:at + 1 + row[at]]


def in_lowest_terms(line):
    return (1, *Fraction(line[1], line[2]).as_integer_ratio()) if line[0] == 1 else line


def used(line):
    return line[1:] if line[0] >= 2 else ()


def three(lines):
    depths = []
    for line in lines:
        depths.append(1 + max(depths[i] for i in used(line)) if line[0] >= 2 else 0)
    return [len(lines), sum(line[0] >= 2 for line in lines), max(depths, default=0)]


class Values(unittest.TestCase):
    def codes(self):
        chance = random.Random(20)
        return [some_code(chance) for _ in range(CODES)]

    def for_each(self, check):
        """Calls check(mode, lines, outs, small's answer, map's, counts') for each code and mode."""
        for number, (lines, out_numbers) in enumerate(self.codes()):
            for mode in range(16):
                with self.subTest(number=number, mode=mode, lines=lines, outs=out_numbers):
                    answered = ask(code(INPUTS, *lines), outs(*out_numbers), small(mode), went(mode), counts(mode))
                    self.assertEqual(answered[:2], [[len(lines)], [len(out_numbers)]])
                    check(mode, lines, out_numbers, *answered[2:])

    def test_no_value_is_changed(self):
        self.for_each(self.check_values)

    def check_values(self, mode, lines, out_numbers, made_row, mapped, counted):
        made, _ = lines_of(made_row)
        for point in POINTS:
            new = values_at(made, point)
            # Where the old run ends early, only what it worked out is compared.
            for at, value in enumerate(values_at(lines, point)):
                if mapped[1 + at] >= 0:
                    self.assertEqual(new[mapped[1 + at]], value)

    def test_the_answers_agree(self):
        self.for_each(self.check_answers)

    def check_answers(self, mode, lines, out_numbers, made_row, mapped, counted):
        made, made_outs = lines_of(made_row)
        self.assertEqual(mapped[0], len(lines))
        self.assertEqual(len(mapped), len(lines) + 1)
        self.assertEqual(made_outs, [mapped[1 + out] for out in out_numbers])
        self.assertEqual({*mapped[1:]} - {-1}, {*range(len(made))})
        self.assertEqual(counted, three(lines) + three(made))
        if not mode & 8:
            self.assertNotIn(-1, mapped)

    def test_new_code_is_of_the_form(self):
        self.for_each(self.check_form)

    def check_form(self, mode, lines, out_numbers, made_row, mapped, counted):
        made, _ = lines_of(made_row)
        for at, line in enumerate(made):
            self.assertTrue(all(0 <= i < at for i in used(line)))
            if line[0] == 1:
                value = Fraction(line[1], line[2])
                self.assertEqual(line, (1, value.numerator, value.denominator))
                self.assertLessEqual(weight(value), 200)

    def test_no_line_twice_with_share(self):
        self.for_each(self.check_shared)

    def check_shared(self, mode, lines, out_numbers, made_row, mapped, counted):
        made, _ = lines_of(made_row)
        if mode & 1:
            self.assertEqual(len(set(made)), len(made))
            self.assertFalse([line for line in made if line[0] in (2, 4) and line[1] > line[2]])

    def test_no_dead_line_with_mode_8(self):
        self.for_each(self.check_alive)

    def check_alive(self, mode, lines, out_numbers, made_row, mapped, counted):
        made, made_outs = lines_of(made_row)
        if mode & 8:
            needed = {*made_outs, *(i for line in made for i in used(line))}
            self.assertEqual(needed, {*range(len(made))})

    def test_run_answers_what_the_lines_are_worth(self):
        faults = []
        for lines, out_numbers in self.codes():
            with self.subTest(lines=lines, outs=out_numbers):
                answered = ask(code(INPUTS, *lines), outs(*out_numbers), *[run(*point) for point in POINTS])
                expected = [run_answer(lines, out_numbers, point) for point in POINTS]
                self.assertEqual(answered[2:], expected)
                faults.extend(answer[2] if answer[0] == 1 else 0 for answer in expected)
        # So that a change of the codes doesn't leave one of the ways untried.
        self.assertEqual({*faults}, {0, 1, 2})

    def test_take_holds_what_is_made(self):
        self.for_each(self.check_take)

    def check_take(self, mode, lines, out_numbers, made_row, mapped, counted):
        runs = [run(*point) for point in POINTS]
        answered = ask(code(INPUTS, *lines), outs(*out_numbers), *runs, take(mode), held(), *runs)
        before = answered[2:2 + len(runs)]
        after = answered[-len(runs):]
        self.assertEqual(answered[2 + len(runs):-len(runs)], [[made_row[0]], made_row])
        for old, new, point in zip(before, after, POINTS):
            self.assertEqual(new, run_answer(*lines_of(made_row), point))
            if old[0] == 0:
                self.assertEqual(new, old)

    def test_after_take_it_is_as_if_told_anew(self):
        self.for_each(self.check_taken)

    def check_taken(self, mode, lines, out_numbers, made_row, mapped, counted):
        made, made_outs = lines_of(made_row)
        # Folds may make constants that can't be told to code.
        if max(map(abs, made_row)) > NUMBER_MOST:
            return
        other = (mode * 7 + 3) % 16
        asked = [small(other), went(other), counts(other), take(other), held(), small(mode)]
        by_take = ask(code(INPUTS, *lines), outs(*out_numbers), take(mode), *asked)
        anew = ask(code(INPUTS, *made), outs(*made_outs), *asked)
        self.assertEqual(by_take[3:], anew[2:])

    def test_lines_tells_the_code(self):
        for lines, out_numbers in self.codes():
            answered = last(code(INPUTS, *lines), outs(*out_numbers), held())
            self.assertEqual(answered, told([in_lowest_terms(line) for line in lines], out_numbers))

    def test_alike_is_one_new_line_before_dead_ones_are_left_out(self):
        self.for_each(self.check_alike)

    def check_alike(self, mode, lines, out_numbers, made_row, mapped, counted):
        places = last(code(INPUTS, *lines), went(mode & 7))[1:]
        chance = random.Random(len(lines) * 16 + mode)
        some = [chance.randrange(len(lines)) for _ in range(6)]
        pairs = [(at, chance.randrange(len(lines))) for at in some]
        # Lines by chance are seldom alike, so each is asked beside the first that went where it did, too.
        pairs += [(at, places.index(places[at])) for at in some]
        answered = ask(code(INPUTS, *lines), outs(*out_numbers), *[alike(mode, i, j) for i, j in pairs])
        self.assertEqual(answered[2:], [[int(places[i] == places[j])] for i, j in pairs])


if __name__ == "__main__":
    unittest.main()
