"""Line code: a list of lines, each a tuple of its kind and its numbers, constants in lowest terms."""

from smallcode.fraction import divided, lowest, minus, negative, plus, times

INPUT = 0
CONSTANT = 1
SUM = 2
DIFFERENCE = 3
PRODUCT = 4
QUOTIENT = 5
NEGATIVE = 6

# How many numbers a line has, by its kind, the kind counted too.
LENGTHS = (2, 3, 3, 3, 3, 3, 2)

MOST_LINES = 80
MOST_INPUTS = 12


def is_operation(line):
    """Whether a line is worked out of other lines."""
    return SUM <= line[0] <= NEGATIVE


def used_lines(line):
    """The numbers of the lines that a line uses."""
    return line[1:] if is_operation(line) else ()


def with_lines_replaced(line, numbers):
    """The line, with numbers[i] in the place of each line i that it uses."""
    if not is_operation(line):
        return line
    return (line[0],) + tuple([numbers[used] for used in used_lines(line)])


def read_constant(numbers):
    """The constant line of a numerator and a denominator, None if the denominator is wrong."""
    if numbers[1] < 1:
        return None
    return (CONSTANT,) + lowest(numbers[0], numbers[1])


def read_line(row, at):
    """The line that begins in the row at this place, None if there's none of the right form."""
    kind = row[at]
    if kind < 0 or kind >= len(LENGTHS):
        return None
    numbers = row[at + 1:at + LENGTHS[kind]]
    if len(numbers) < LENGTHS[kind] - 1:
        return None
    if kind == CONSTANT:
        return read_constant(numbers)
    if min(numbers) < 0:
        return None
    return (kind,) + tuple(numbers)


def read_lines(row):
    """The lines of a number row, None if it isn't lines one behind the other."""
    lines = []
    at = 0
    while at < len(row):
        line = read_line(row, at)
        if line is None:
            return None
        lines.append(line)
        at += LENGTHS[line[0]]
    return lines


def number_row(lines):
    """How many lines there are, then the lines, as one list of numbers."""
    row = [len(lines)]
    for line in lines:
        row.extend(line)
    return row


def uses_only_earlier(lines, inputs):
    """Whether each line uses only lines before it and inputs that are there."""
    for at, line in enumerate(lines):
        if line[0] == INPUT and line[1] >= inputs:
            return False
        if max(used_lines(line), default=-1) >= at:
            return False
    return True


def operation_value(kind, values):
    """What an operation on these fractions is worth, None for a division by 0."""
    if kind == SUM:
        return plus(values[0], values[1])
    if kind == DIFFERENCE:
        return minus(values[0], values[1])
    if kind == PRODUCT:
        return times(values[0], values[1])
    if kind == QUOTIENT:
        return divided(values[0], values[1])
    return negative(values[0])


def depth(lines):
    """The greatest depth of a line, 0 without lines."""
    depths = []
    for line in lines:
        below = [depths[used] for used in used_lines(line)]
        depths.append(max(below) + 1 if is_operation(line) else 0)
    return max(depths, default=0)


def three_counts(lines):
    """How many lines, how many operations, the depth."""
    operations = len([line for line in lines if is_operation(line)])
    return [len(lines), operations, depth(lines)]
