"""Making lines anew by a mode, and leaving out dead lines."""

from smallcode.fraction import MOST_WEIGHT, weight
from smallcode.identities import IS_LINE, identity
from smallcode.linecode import CONSTANT, PRODUCT, SUM
from smallcode.linecode import is_operation, operation_value, used_lines, with_lines_replaced

SHARE = 1
FOLD = 2
IDENTITIES = 4
LEAVE_OUT_DEAD = 8
MOST_MODE = 15

GONE = -1


class Made:
    """New lines, and for each old line the new one that it went to, or GONE."""

    def __init__(self, lines, went):
        self.lines = lines
        self.went = went


def folded(made, line):
    """The constant that an operation on constants is worth, None where it can't be folded."""
    if not is_operation(line):
        return None
    below = [made[used] for used in used_lines(line)]
    if any([each[0] != CONSTANT for each in below]):
        return None
    value = operation_value(line[0], [each[1:] for each in below])
    if value is None or weight(value) > MOST_WEIGHT:
        return None
    return (CONSTANT,) + value


def one_step(made, line, mode):
    """What the line becomes by one fold or identity, None if there's none to do."""
    after = None
    if mode & FOLD:
        after = folded(made, line)
    if after is None and mode & IDENTITIES:
        after = identity(made, line)
    return after


def settled(made, line, mode):
    """What's left of the line when no fold and no identity can be done any more."""
    after = one_step(made, line, mode)
    while after is not None:
        line = after
        after = one_step(made, line, mode)
    return line


def in_shared_order(line):
    """A sum or product with the line of the smaller number first; any other line as it is."""
    if (line[0] == SUM or line[0] == PRODUCT) and line[1] > line[2]:
        return (line[0], line[2], line[1])
    return line


def put(made, places, line, mode):
    """The number of the new line that a settled line is; it's put behind the others if it must be."""
    if line[0] == IS_LINE:
        return line[1]
    if mode & SHARE:
        line = in_shared_order(line)
        if line in places:
            return places[line]
    places[line] = len(made)
    made.append(line)
    return places[line]


def lines_anew(lines, mode):
    """What's made of the lines before dead ones are left out."""
    made = []
    places = {}
    went = []
    for line in lines:
        left = settled(made, with_lines_replaced(line, went), mode)
        went.append(put(made, places, left, mode))
    return Made(made, went)


def needed_lines(lines, outs):
    """For each line whether it's an out or used by a needed line."""
    needed = [False for line in lines]
    for out in outs:
        needed[out] = True
    # Lines use only earlier ones, so going backwards each is known before it's looked at.
    for at in range(len(lines) - 1, -1, -1):
        if needed[at]:
            for used in used_lines(lines[at]):
                needed[used] = True
    return needed


def without_dead(made, outs):
    """What's left of what was made when only the lines that the outs (old numbers) need stay."""
    needed = needed_lines(made.lines, [made.went[out] for out in outs])
    kept = []
    numbers = []
    for line, stays in zip(made.lines, needed):
        if stays:
            numbers.append(len(kept))
            kept.append(with_lines_replaced(line, numbers))
        else:
            numbers.append(GONE)
    return Made(kept, [numbers[new] for new in made.went])


def make(lines, outs, mode):
    """What's made of the code by the mode."""
    made = lines_anew(lines, mode)
    if mode & LEAVE_OUT_DEAD:
        return without_dead(made, outs)
    return made
