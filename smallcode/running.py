"""Running code at a point: a fraction for each input."""

from smallcode.fraction import MOST_WEIGHT, lowest, weight
from smallcode.linecode import CONSTANT, INPUT, operation_value, used_lines

NO_FAULT = 0
DIVISION_BY_ZERO = 1
TOO_HEAVY = 2


class Run:
    """The values of the lines before the fault, or of all lines, and the fault's number or NO_FAULT."""

    def __init__(self, worked_out, fault):
        self.worked_out = worked_out
        self.fault = fault


def read_point(row, inputs):
    """The fractions of a number row, None if it isn't a fraction for each input."""
    if len(row) != 2 * inputs:
        return None
    point = []
    for at in range(0, len(row), 2):
        if row[at + 1] < 1:
            return None
        point.append(lowest(row[at], row[at + 1]))
    return point


def line_value(line, before, point):
    """What a line is worth, given the values of the lines before it; None for a division by 0."""
    if line[0] == INPUT:
        return point[line[1]]
    if line[0] == CONSTANT:
        return line[1:]
    return operation_value(line[0], [before[used] for used in used_lines(line)])


def fault_of(value):
    """The number of the fault that a line of this value has."""
    if value is None:
        return DIVISION_BY_ZERO
    if weight(value) > MOST_WEIGHT:
        return TOO_HEAVY
    return NO_FAULT


def run_lines(lines, point):
    """The run of the lines at the point, which ends at the first fault."""
    worked_out = []
    for line in lines:
        value = line_value(line, worked_out, point)
        fault = fault_of(value)
        if fault != NO_FAULT:
            return Run(worked_out, fault)
        worked_out.append(value)
    return Run(worked_out, NO_FAULT)
