"""Lines: tuples (a, b, c) of whole numbers in one form, for the places with a x + b y = c."""

from movebook.fracs import fraction
from movebook.places import beyond, cleared
from movebook.wholes import common_divisor


def through(p, q):
    """The line that has both places; None where they are one."""
    if p == q:
        return None
    x, y, w = cleared(p)
    to_x, to_y, to_w = cleared(q)
    return one_form(y * to_w - to_y * w, to_x * w - x * to_w, to_x * y - x * to_y)


def along(p, line):
    """The line side by side with the given one that has p."""
    return line_at(p, line[0], line[1])


def upright(p, line):
    """The line square to the given one that has p."""
    return line_at(p, line[1], -line[0])


def meet(line, other):
    """The place that both lines have; None where they are side by side."""
    a, b, c = line
    other_a, other_b, other_c = other
    apart = a * other_b - b * other_a
    if apart == 0:
        return None
    return (fraction(c * other_b - b * other_c, apart), fraction(a * other_c - c * other_a, apart))


def foot(p, line):
    """The place where the line meets the line upright on it through p."""
    return meet(line, upright(p, line))


def mirror(p, line):
    """The place such that the foot of p is the middle of p and it."""
    return beyond(p, foot(p, line))


def line_at(p, a, b):
    """The line that has p and whose first two numbers are as a and b, not both 0."""
    x, y, w = cleared(p)
    return one_form(a * w, b * w, a * x + b * y)


def one_form(a, b, c):
    """The one tuple of the line of the places with a x + b y = c, a and b not both 0."""
    divisor = common_divisor(common_divisor(a, b), c)
    if a < 0 or (a == 0 and b < 0):
        divisor = -divisor
    return (a // divisor, b // divisor, c // divisor)
