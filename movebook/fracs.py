"""Fractions: tuples (top, bottom) in lowest terms, bottom from 1 on."""

from movebook.errors import NoNumber
from movebook.wholes import common_divisor, whole_root


def fraction(top, bottom):
    """The fraction that is top divided by bottom."""
    if bottom == 0:
        raise NoNumber()
    divisor = common_divisor(top, bottom)
    if bottom < 0:
        divisor = -divisor
    return (top // divisor, bottom // divisor)


def plus(one, other):
    """The sum of two fractions."""
    return fraction(one[0] * other[1] + other[0] * one[1], one[1] * other[1])


def minus(one, other):
    """The first fraction less the second."""
    return fraction(one[0] * other[1] - other[0] * one[1], one[1] * other[1])


def times(one, other):
    """The product of two fractions."""
    return fraction(one[0] * other[0], one[1] * other[1])


def over(one, other):
    """The first fraction divided by the second."""
    # The bottom is 0 just where the second fraction is nought, so fraction refuses that.
    return fraction(one[0] * other[1], one[1] * other[0])


def less(one, other):
    """Whether the first fraction is less than the second."""
    return one[0] * other[1] < other[0] * one[1]


def root(one):
    """The fraction, not below nought, whose square is the given one; None where there is none."""
    if one[0] < 0:
        return None
    # In lowest terms a fraction is a square just where its top and its bottom are.
    top = whole_root(one[0])
    bottom = whole_root(one[1])
    if top * top != one[0] or bottom * bottom != one[1]:
        return None
    return (top, bottom)
