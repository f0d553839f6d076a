"""Fractions: pairs of a numerator and a denominator, in lowest terms."""

MOST_WEIGHT = 200


def greatest_divisor(left, right):
    """The greatest number that divides both; neither is below 0, and not both are 0."""
    while right != 0:
        rest = left % right
        left = right
        right = rest
    return left


def lowest(top, bottom):
    """The fraction top over bottom, where bottom isn't 0."""
    common = greatest_divisor(abs(top), abs(bottom))
    if bottom < 0:
        common = -common
    return (top // common, bottom // common)


def weight(value):
    """How many binary digits the two numbers of a fraction have together."""
    return value[0].bit_length() + value[1].bit_length()


def plus(left, right):
    """The sum of two fractions."""
    return lowest(left[0] * right[1] + right[0] * left[1], left[1] * right[1])


def negative(value):
    """The negative of a fraction."""
    return (-value[0], value[1])


def minus(left, right):
    """The difference of two fractions."""
    return plus(left, negative(right))


def times(left, right):
    """The product of two fractions."""
    return lowest(left[0] * right[0], left[1] * right[1])


def divided(left, right):
    """The quotient of two fractions, None for a division by 0."""
    if right[0] == 0:
        return None
    return lowest(left[0] * right[1], left[1] * right[0])
