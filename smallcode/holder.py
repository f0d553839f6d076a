"""The object that the calls are about: code over a number of inputs, and its outs."""

from smallcode.linecode import MOST_INPUTS, MOST_LINES
from smallcode.linecode import number_row, read_lines, three_counts, uses_only_earlier
from smallcode.making import MOST_MODE, lines_anew, make
from smallcode.running import NO_FAULT, read_point, run_lines

WRONG_NUMBER = -1
WRONG_LIST = -2
WRONG_USE = -3
TOO_MANY_LINES = -7

MOST_OUTS = 12


def is_mode(mode):
    """Whether a number is a mode."""
    return 0 <= mode <= MOST_MODE


def code_row(lines, outs):
    """How many lines, the lines, how many outs, the outs, as one list of numbers."""
    return number_row(lines) + [len(outs)] + outs


class Holder:
    """Each method that holds or tells something is a call and gives back its answer: a list of numbers."""

    def __init__(self):
        self.inputs = 0
        self.lines = []
        self.outs = []

    def is_line(self, number):
        """Whether a number is a line's number."""
        return 0 <= number < len(self.lines)

    def new_outs(self, made):
        """The outs by their numbers in what's made."""
        return [made.went[out] for out in self.outs]

    def hold_code(self, inputs, row):
        """The call code."""
        if not 0 <= inputs <= MOST_INPUTS:
            return [WRONG_NUMBER]
        lines = read_lines(row)
        if lines is None:
            return [WRONG_LIST]
        if len(lines) > MOST_LINES:
            return [TOO_MANY_LINES]
        if not uses_only_earlier(lines, inputs):
            return [WRONG_USE]
        self.inputs = inputs
        self.lines = lines
        self.outs = [len(lines) - 1] if len(lines) > 0 else []
        return [len(lines)]

    def hold_outs(self, outs):
        """The call outs."""
        if len(outs) > MOST_OUTS:
            return [WRONG_LIST]
        if any([not self.is_line(out) for out in outs]):
            return [WRONG_LIST]
        self.outs = list(outs)
        return [len(outs)]

    def tell_small(self, mode):
        """The call small."""
        if not is_mode(mode):
            return [WRONG_NUMBER]
        made = make(self.lines, self.outs, mode)
        return code_row(made.lines, self.new_outs(made))

    def tell_map(self, mode):
        """The call map."""
        if not is_mode(mode):
            return [WRONG_NUMBER]
        made = make(self.lines, self.outs, mode)
        return [len(made.went)] + made.went

    def tell_counts(self, mode):
        """The call counts."""
        if not is_mode(mode):
            return [WRONG_NUMBER]
        made = make(self.lines, self.outs, mode)
        return three_counts(self.lines) + three_counts(made.lines)

    def tell_alike(self, mode, first, second):
        """The call alike."""
        if not is_mode(mode) or not self.is_line(first) or not self.is_line(second):
            return [WRONG_NUMBER]
        # Dead lines are still there: two lines that are gone needn't be the same.
        went = lines_anew(self.lines, mode).went
        return [1 if went[first] == went[second] else 0]

    def hold_made(self, mode):
        """The call take."""
        if not is_mode(mode):
            return [WRONG_NUMBER]
        made = make(self.lines, self.outs, mode)
        self.outs = self.new_outs(made)
        self.lines = made.lines
        return [len(self.lines)]

    def tell_lines(self):
        """The call lines."""
        return code_row(self.lines, self.outs)

    def tell_run(self, row):
        """The call run."""
        point = read_point(row, self.inputs)
        if point is None:
            return [WRONG_LIST]
        done = run_lines(self.lines, point)
        if done.fault != NO_FAULT:
            # The run ended at the first line that has no value.
            return [1, len(done.worked_out), done.fault]
        answer = [0, len(self.outs)]
        for out in self.outs:
            answer.extend(done.worked_out[out])
        return answer
