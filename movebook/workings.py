"""Points, lines and claims as forms: a point is (X, Y, W), at the place (X / W, Y / W), a line (a, b, c)."""

from movebook.forms import added, multiplied, scaled, taken

# The four columns of a determinant, two and two, each in an order that gives the product the sign +.
COLUMNS = ((0, 1, 2, 3), (0, 2, 3, 1), (0, 3, 1, 2), (1, 2, 0, 3), (3, 1, 0, 2), (2, 3, 0, 1))


def free_at(number, many):
    """The free point of that number, from 0, in so many unknowns: at (0, 0), (1, 0), (u0, u1), (u2, u3) and so on."""
    one = (((0,) * many, 1),)
    if number == 0:
        return ((), (), one)
    if number == 1:
        return (one, (), one)
    return (unknown(2 * number - 4, many), unknown(2 * number - 3, many), one)


def unknown(at, many):
    """The form of the one unknown numbered at."""
    return (((0,) * at + (1,) + (0,) * (many - at - 1), 1),)


def figure_forms(making, one, other):
    """The three forms of the point or line that is so made of its two grounds' forms; not by "free" or "cut"."""
    match making[0]:
        case "middle":
            return shared_out(one, other, (1, 2))
        case "next":
            return shared_out(one, other, (2, 1))
        case "share":
            return shared_out(one, other, making[3])
        case "turn":
            return turned_about(one, other)
        case "foot":
            return toward(one, other, 1)
        case "mirror":
            return toward(one, other, 2)
        case "meet" | "line":
            return crossed(one, other)
        case "along":
            return line_at(one, other[0], other[1])
        case "upright":
            return line_at(one, other[1], scaled(other[0], -1))


def shared_out(p, q, t):
    """The point p + t (q - p)."""
    top, bottom = t
    x = added(scaled(multiplied(p[0], q[2]), bottom - top), scaled(multiplied(q[0], p[2]), top))
    y = added(scaled(multiplied(p[1], q[2]), bottom - top), scaled(multiplied(q[1], p[2]), top))
    return (x, y, scaled(multiplied(p[2], q[2]), bottom))


def turned_about(p, q):
    """The point p turned about q."""
    x = taken(multiplied(added(q[0], q[1]), p[2]), multiplied(p[1], q[2]))
    y = added(multiplied(taken(q[1], q[0]), p[2]), multiplied(p[0], q[2]))
    return (x, y, multiplied(p[2], q[2]))


def toward(p, line, times):
    """The point that lies so many times the way from p to its foot on the line."""
    a, b, c = line
    length = hinge_of_line(line)
    short = scaled(taken(multiplied(c, p[2]), added(multiplied(a, p[0]), multiplied(b, p[1]))), times)
    x = added(multiplied(p[0], length), multiplied(a, short))
    y = added(multiplied(p[1], length), multiplied(b, short))
    return (x, y, multiplied(p[2], length))


def crossed(one, other):
    """The line through two points; or the point where two lines meet."""
    # Both are reckoned alike: the point gets all three signs turned, which leaves its place as it is.
    return (cross(one, other, 1, 2), cross(one, other, 2, 0), cross(one, other, 1, 0))


def cross(one, other, at, to):
    """The product of the parts at and to of the two, less the product of the parts to and at."""
    return taken(multiplied(one[at], other[to]), multiplied(one[to], other[at]))


def line_at(p, a, b):
    """The line that has the point and whose first two numbers are as a and b."""
    return (multiplied(a, p[2]), multiplied(b, p[2]), added(multiplied(a, p[0]), multiplied(b, p[1])))


def hinge_of_line(line):
    """The sum of two squares that is nought just where the first two numbers of the line are."""
    return added(squared(line[0]), squared(line[1]))


def claim_form(word, parts):
    """The form that is nought just where the claim of that word is kept, of its grounds' forms."""
    match word:
        case "inline":
            return inline_form(*parts)
        case "round":
            return round_form(*parts)
        case "alike":
            return alike_form(*parts)
        case "beside":
            return cross(*parts, 0, 1)
        case "square":
            return square_form(*parts)


def inline_form(p, q, r):
    """Nought just where the line through q and r, if there is one, has p."""
    a, b, c = crossed(q, r)
    return taken(added(multiplied(a, p[0]), multiplied(b, p[1])), multiplied(c, p[2]))


def square_form(line, other):
    """Nought just where the lines are square to one another."""
    return added(multiplied(line[0], other[0]), multiplied(line[1], other[1]))


def alike_form(p, q, r, s):
    """Nought just where the squares of both distances are equal, over one bottom."""
    one = multiplied(square_of_way(p, q), squared(multiplied(r[2], s[2])))
    other = multiplied(square_of_way(r, s), squared(multiplied(p[2], q[2])))
    return taken(one, other)


def square_of_way(p, q):
    """The square of the distance of two points, times the square of the product of their W."""
    return hinge_of_line(crossed(p, q))


def squared(form):
    """The form times itself."""
    return multiplied(form, form)


def round_form(p, q, r, s):
    """Nought just where numbers, not all 0, make one equation of a circle or a line that holds of all four."""
    # The determinant of the four, by two columns of the first two and the other two columns of the last two.
    one, two, three, four = lifted(p), lifted(q), lifted(r), lifted(s)
    total = ()
    for first, second, third, fourth in COLUMNS:
        total = added(total, multiplied(cross(one, two, first, second), cross(three, four, third, fourth)))
    return total


def lifted(p):
    """Forms in the proportion of x, y, x x + y y and 1, where (x, y) is the place of the point."""
    x, y, w = p
    return (multiplied(x, w), multiplied(y, w), added(squared(x), squared(y)), squared(w))
