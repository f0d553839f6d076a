"""The identities: what a line becomes, looked at beside the new lines that it uses."""

from smallcode.linecode import CONSTANT, DIFFERENCE, NEGATIVE, PRODUCT, QUOTIENT, SUM

# The kind of no line that's ever put: (IS_LINE, a) says that it's the new line a.
IS_LINE = 7


def is_worth(made, number, value):
    """Whether a new line is the constant of this whole number."""
    return made[number] == (CONSTANT, value, 1)


def is_negative(made, number):
    """Whether a new line is the negative of a line."""
    return made[number][0] == NEGATIVE


def sum_identity(made, a, b):
    """What a + b becomes, None if nothing fits."""
    if is_worth(made, a, 0):
        return (IS_LINE, b)
    if is_worth(made, b, 0):
        return (IS_LINE, a)
    if is_negative(made, b):
        return (DIFFERENCE, a, made[b][1])
    if is_negative(made, a):
        return (DIFFERENCE, b, made[a][1])
    return None


def difference_identity(made, a, b):
    """What a - b becomes, None if nothing fits."""
    if is_worth(made, b, 0):
        return (IS_LINE, a)
    if a == b:
        return (CONSTANT, 0, 1)
    if is_worth(made, a, 0):
        return (NEGATIVE, b)
    if is_negative(made, b):
        return (SUM, a, made[b][1])
    return None


def product_identity(made, a, b):
    """What a * b becomes, None if nothing fits."""
    if is_worth(made, a, 0) or is_worth(made, b, 0):
        return (CONSTANT, 0, 1)
    if is_worth(made, a, 1):
        return (IS_LINE, b)
    if is_worth(made, b, 1):
        return (IS_LINE, a)
    if is_worth(made, a, -1):
        return (NEGATIVE, b)
    if is_worth(made, b, -1):
        return (NEGATIVE, a)
    return None


def quotient_identity(made, a, b):
    """What a divided by b becomes, None if nothing fits."""
    # A division by 0 has to stay: it's a fault when the code is run.
    if is_worth(made, b, 0):
        return None
    if is_worth(made, b, 1):
        return (IS_LINE, a)
    if a == b:
        return (CONSTANT, 1, 1)
    if is_worth(made, a, 0):
        return (CONSTANT, 0, 1)
    if is_worth(made, b, -1):
        return (NEGATIVE, a)
    return None


def negative_identity(made, a):
    """What the negative of a becomes, None if nothing fits."""
    below = made[a]
    if below[0] == NEGATIVE:
        return (IS_LINE, below[1])
    if below[0] == DIFFERENCE:
        return (DIFFERENCE, below[2], below[1])
    return None


def identity(made, line):
    """What the line becomes by the first identity that fits, None if nothing fits."""
    kind = line[0]
    if kind == SUM:
        return sum_identity(made, line[1], line[2])
    if kind == DIFFERENCE:
        return difference_identity(made, line[1], line[2])
    if kind == PRODUCT:
        return product_identity(made, line[1], line[2])
    if kind == QUOTIENT:
        return quotient_identity(made, line[1], line[2])
    if kind == NEGATIVE:
        return negative_identity(made, line[1])
    return None
