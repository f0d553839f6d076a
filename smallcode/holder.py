"""The object that the calls are about: code over a number of inputs, and its outs."""

from smallcode.linecode import MOST_INPUTS, MOST_LINES
from smallcode.linecode import number_row, read_lines, three_counts, uses_only_earlier
from smallcode.making import MOST_MODE, make

WRONG_NUMBER = -1
WRONG_LIST = -2
WRONG_USE = -3
TOO_MANY_LINES = -7

MOST_OUTS = 12


def is_mode(mode):
    """Whether a number is a mode."""
    return 0 <= mode <= MOST_MODE


class Holder:
    """Each method is a call and gives back its answer: a list of numbers."""

    def __init__(self):
        self.inputs = 0
        self.lines = []
        self.outs = []

    def hold_code(self, inputs, row):
        """The call code."""
        if not 0 <= inputs <= MOST_INPUTS:
            return [WRONG_NUMBER]
        lines = read_lines(row)
        if lines is None:
            return [WRONG_LIST]
        if len(lines) > MOST_LINES:
            return [TOO_MANY_LINES]
        if not uses_only_earlier(lines, inputs):
            return [WRONG_USE]
        self.inputs = inputs
        self.lines = lines
        self.outs = [len(lines) - 1] if len(lines) > 0 else []
        return [len(lines)]

    def hold_outs(self, outs):
        """The call outs."""
        if len(outs) > MOST_OUTS:
            return [WRONG_LIST]
        if any([not 0 <= out < len(self.lines) for out in outs]):
            return [WRONG_LIST]
        self.outs = list(outs)
        return [len(outs)]

    def tell_small(self, mode):
        """The call small."""
        if not is_mode(mode):
            return [WRONG_NUMBER]
        made = make(self.lines, self.outs, mode)
        return number_row(made.lines) + [len(self.outs)] + [made.went[out] for out in self.outs]

    def tell_map(self, mode):
        """The call map."""
        if not is_mode(mode):
            return [WRONG_NUMBER]
        made = make(self.lines, self.outs, mode)
        return [len(made.went)] + made.went

    def tell_counts(self, mode):
        """The call counts."""
        if not is_mode(mode):
            return [WRONG_NUMBER]
        made = make(self.lines, self.outs, mode)
        return three_counts(self.lines) + three_counts(made.lines)
