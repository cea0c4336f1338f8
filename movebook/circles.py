"""Circles: tuples (x, y, s) of fractions, the centre (x, y) and the square s of the radius."""

from movebook.fracs import fraction, root
from movebook.lines import one_form
from movebook.places import cleared, way


def about(p, q):
    """The circle about p through q; None where they are one place."""
    if p == q:
        return None
    x, y, w = way(p, q)
    return (p[0], p[1], fraction(x * x + y * y, w * w))


def line_cuts(line, ring):
    """What a line and a circle have in common: a word and a list of places."""
    a, b, c = line
    x, y, w = cleared(ring[:2])
    top, bottom = ring[2]
    # Point 12's e is short / w; its d times w w is below nought or a square just where d is.
    short = c * w - a * x - b * y
    spare = fraction(top * (a * a + b * b) * w * w - short * short * bottom, bottom)
    if spare[0] < 0:
        return ("miss", [])
    reach = root(spare)
    if reach is None:
        return ("root", [])
    onward = reached(line, (x, y, w), short, reach)
    backward = reached(line, (x, y, w), short, (-reach[0], reach[1]))
    # Onward along (b, -a) x rises where b is above 0; else x falls or, where b is 0, y does, a being above 0.
    return ("at", [backward, onward] if b > 0 else [onward, backward])


def ring_cuts(ring, other):
    """What two circles have in common: a word and a list of places."""
    if ring[:2] == other[:2]:
        return ("centre", [])
    return line_cuts(common_line(ring, other), ring)


def reached(line, centre, short, reach):
    """The place (x + a e / n, y + b e / n) and r (b, -a) / n added to it, as in point 12.

    The centre (x, y) is handed in as whole numbers over their w, short is e times w,
    and the fraction reach is r times w.
    """
    a, b, c = line
    x, y, w = centre
    n = a * a + b * b
    top, bottom = reach
    right = (n * x + a * short) * bottom + b * top
    up = (n * y + b * short) * bottom - a * top
    return (fraction(right, w * n * bottom), fraction(up, w * n * bottom))


def common_line(ring, other):
    """The line of the places whose squared distances from the centres differ as the circles' s do."""
    # What both circles' equations, brought to one number before x x + y y, have apart is this line.
    m, g, h, k = equation(ring)
    other_m, other_g, other_h, other_k = equation(other)
    return one_form(other_g * m - g * other_m, other_h * m - h * other_m, k * other_m - other_k * m)


def equation(ring):
    """Whole numbers m, g, h, k, m above 0: the circle has the places with m (x x + y y) - g x - h y = k."""
    x, y, w = cleared(ring[:2])
    top, bottom = ring[2]
    return (w * w * bottom, 2 * x * w * bottom, 2 * y * w * bottom, top * w * w - (x * x + y * y) * bottom)
