"""What in line, side by side, square, round and as far mean."""

from movebook.places import way


def in_line(p, q, r):
    """Whether some line has all three places."""
    x, y, w = way(p, q)
    other_x, other_y, other_w = way(p, r)
    return x * other_y == y * other_x


def side_by_side(line, other):
    """Whether the ways of two lines are alike."""
    return line[0] * other[1] == line[1] * other[0]


def square_on(line, other):
    """Whether two lines are square to one another."""
    return line[0] * other[0] + line[1] * other[1] == 0


def all_round(p, q, r, s):
    """Whether some circle or some line has all four places."""
    # With p shifted to (0, 0), such a circle or line has the places with m (x x + y y) = g x + h y,
    # and there are such numbers, not all 0, for the three others just where this sum is nought.
    x, y, far = lifted(p, q)
    second_x, second_y, second_far = lifted(p, r)
    third_x, third_y, third_far = lifted(p, s)
    first = x * (second_y * third_far - second_far * third_y)
    second = y * (second_far * third_x - second_x * third_far)
    third = far * (second_x * third_y - second_y * third_x)
    return first + second + third == 0


def as_far(p, q, r, s):
    """Whether p is as far from q as r is from s."""
    x, y, w = way(p, q)
    other_x, other_y, other_w = way(r, s)
    return (x * x + y * y) * other_w * other_w == (other_x * other_x + other_y * other_y) * w * w


def lifted(p, q):
    """Whole numbers in the proportion of x, y and x x + y y, where (x, y) is q less p."""
    x, y, w = way(p, q)
    return (x * w, y * w, x * x + y * y)
