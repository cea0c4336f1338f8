"""Places: tuples (x, y) of two fractions, x to the right, y upward."""

from movebook.fracs import fraction, minus, plus
from movebook.wholes import common_divisor


def middle(p, q):
    """The place halfway between two."""
    return share(p, q, (1, 2))


def share(p, q, t):
    """The place p + t (q - p)."""
    return (between(p[0], q[0], t), between(p[1], q[1], t))


def beyond(p, q):
    """The next of p and q: the place such that q is the middle of p and it."""
    return share(p, q, (2, 1))


def turned(p, q):
    """The place where p is, its way from q turned a quarter to the left."""
    right = minus(p[0], q[0])
    up = minus(p[1], q[1])
    return (minus(q[0], up), plus(q[1], right))


def between(start, end, t):
    """The fraction start + t (end - start)."""
    # Over one bottom, so that only one fraction is brought to lowest terms.
    first = start[0] * end[1]
    last = end[0] * start[1]
    return fraction(first * t[1] + t[0] * (last - first), start[1] * end[1] * t[1])


def cleared(p):
    """Whole numbers x, y, w, w above 0, such that p is the place (x / w, y / w)."""
    (x, x_bottom), (y, y_bottom) = p
    divisor = common_divisor(x_bottom, y_bottom)
    return (x * (y_bottom // divisor), y * (x_bottom // divisor), x_bottom // divisor * y_bottom)


def way(p, q):
    """Whole numbers x, y, w, w above 0, such that q less p is (x / w, y / w)."""
    x, y, w = cleared(p)
    to_x, to_y, to_w = cleared(q)
    return (to_x * w - x * to_w, to_y * w - y * to_w, w * to_w)
