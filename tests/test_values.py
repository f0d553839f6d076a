"""Promises 3 to 5 over many codes: no value is changed, and small, map and counts agree."""

import random
import unittest
from fractions import Fraction

from tests.helper import ask, code, counts, outs, small, went

CODES = 150
INPUTS = 3
CONSTANTS = ((0, 1), (0, 3), (1, 1), (-1, 1), (2, 2), (-4, 4), (2, 1), (-3, 2), (2 ** 59, 1), (1, 3 ** 37))
POINTS = ((0, 1, -1), (2, 3, 5), (Fraction(1, 2), Fraction(-7, 3), 4))


def some_line(chance, at):
    kind = chance.choice((0, 1, 2, 2, 3, 3, 4, 4, 5, 6, 6)) if at > 0 else chance.choice((0, 1))
    if kind == 0:
        return (0, chance.randrange(INPUTS))
    if kind == 1:
        return (1, *chance.choice(CONSTANTS))
    if kind == 6:
        return (6, chance.randrange(at))
    return (kind, chance.randrange(at), chance.randrange(at))


def some_code(chance):
    lines = [some_line(chance, at) for at in range(chance.randrange(1, 81))]
    return lines, [chance.randrange(len(lines)) for _ in range(chance.randrange(13))]


def weight(value):
    return value.numerator.bit_length() + value.denominator.bit_length()


def line_value(line, values, point):
    kind = line[0]
    if kind == 0:
        return Fraction(point[line[1]])
    if kind == 1:
        return Fraction(line[1], line[2])
    first = values[line[1]]
    if kind == 6:
        return -first
    second = values[line[2]]
    if kind == 5:
        return first / second if second != 0 else None
    return first + second if kind == 2 else first - second if kind == 3 else first * second


def values_at(lines, point):
    """The values of the lines up to the first that can't be worked out."""
    values = []
    for line in lines:
        value = line_value(line, values, point)
        if value is None or weight(value) > 200:
            break
        values.append(value)
    return values


def lines_of(told):
    """The lines and the outs that small answered."""
    lines = []
    at = 1
    for _ in range(told[0]):
        length = 2 if told[at] in (0, 6) else 3
        lines.append(tuple(told[at:at + length]))
        at += length
    return lines, told[at + 1:at + 1 + told[at]]


def used(line):
    return line[1:] if line[0] >= 2 else ()


def three(lines):
    depths = []
    for line in lines:
        depths.append(1 + max(depths[i] for i in used(line)) if line[0] >= 2 else 0)
    return [len(lines), sum(line[0] >= 2 for line in lines), max(depths, default=0)]


class Values(unittest.TestCase):
    def for_each(self, check):
        """Calls check(mode, lines, outs, small's answer, map's, counts') for each code and mode."""
        chance = random.Random(20)
        for number in range(CODES):
            lines, out_numbers = some_code(chance)
            for mode in range(16):
                with self.subTest(number=number, mode=mode, lines=lines, outs=out_numbers):
                    answered = ask(code(INPUTS, *lines), outs(*out_numbers), small(mode), went(mode), counts(mode))
                    self.assertEqual(answered[:2], [[len(lines)], [len(out_numbers)]])
                    check(mode, lines, out_numbers, *answered[2:])

    def test_no_value_is_changed(self):
        self.for_each(self.check_values)

    def check_values(self, mode, lines, out_numbers, told, mapped, counted):
        made, _ = lines_of(told)
        for point in POINTS:
            new = values_at(made, point)
            # Where the old run ends early, only what it worked out is compared.
            for at, value in enumerate(values_at(lines, point)):
                if mapped[1 + at] >= 0:
                    self.assertEqual(new[mapped[1 + at]], value)

    def test_the_answers_agree(self):
        self.for_each(self.check_answers)

    def check_answers(self, mode, lines, out_numbers, told, mapped, counted):
        made, made_outs = lines_of(told)
        self.assertEqual(mapped[0], len(lines))
        self.assertEqual(len(mapped), len(lines) + 1)
        self.assertEqual(made_outs, [mapped[1 + out] for out in out_numbers])
        self.assertEqual({*mapped[1:]} - {-1}, {*range(len(made))})
        self.assertEqual(counted, three(lines) + three(made))
        if not mode & 8:
            self.assertNotIn(-1, mapped)

    def test_new_code_is_of_the_form(self):
        self.for_each(self.check_form)

    def check_form(self, mode, lines, out_numbers, told, mapped, counted):
        made, _ = lines_of(told)
        for at, line in enumerate(made):
            self.assertTrue(all(0 <= i < at for i in used(line)))
            if line[0] == 1:
                value = Fraction(line[1], line[2])
                self.assertEqual(line, (1, value.numerator, value.denominator))
                self.assertLessEqual(weight(value), 200)

    def test_no_line_twice_with_share(self):
        self.for_each(self.check_shared)

    def check_shared(self, mode, lines, out_numbers, told, mapped, counted):
        made, _ = lines_of(told)
        if mode & 1:
            self.assertEqual(len(set(made)), len(made))
            self.assertFalse([line for line in made if line[0] in (2, 4) and line[1] > line[2]])

    def test_no_dead_line_with_mode_8(self):
        self.for_each(self.check_alive)

    def check_alive(self, mode, lines, out_numbers, told, mapped, counted):
        made, made_outs = lines_of(told)
        if mode & 8:
            needed = {*made_outs, *(i for line in made for i in used(line))}
            self.assertEqual(needed, {*range(len(made))})


if __name__ == "__main__":
    unittest.main()
