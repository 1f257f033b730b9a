"""Values of times: pairs (number, number above 0) in lowest terms, for fractions that are not below 0."""

from asneverbegun.basics import is_integer, is_tuple


def lowest(above, below):
    """Returns the pair in lowest terms for one number divided by another one, which is above 0."""
    one, other = above, below
    while other != 0:
        one, other = other, one % other
    return (above // one, below // one)


def is_ratio(value):
    """Tells whether any value is such a pair."""
    if not is_tuple(value, 2) or not is_integer(value[0]) or not is_integer(value[1]):
        return False
    return value[0] >= 0 and value[1] > 0 and lowest(value[0], value[1]) == value


def plus(one, other):
    """Returns the sum."""
    return lowest(one[0] * other[1] + other[0] * one[1], one[1] * other[1])


def minus(one, other):
    """Returns the difference, with a first number below 0 if the other one is greater."""
    return lowest(one[0] * other[1] - other[0] * one[1], one[1] * other[1])


def times_of(one, other):
    """Returns the product."""
    return lowest(one[0] * other[0], one[1] * other[1])


def divided(one, other):
    """Returns the quotient by one that is above 0."""
    return lowest(one[0] * other[1], one[1] * other[0])


def is_less(one, other):
    """Tells whether one is less than the other."""
    return one[0] * other[1] < other[0] * one[1]


def floor_of(ratio):
    """Returns the greatest integer that is not above."""
    return ratio[0] // ratio[1]


def ceiling_of(ratio):
    """Returns the least integer that is not below."""
    return -(-ratio[0] // ratio[1])
