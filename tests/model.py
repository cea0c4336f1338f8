"""Rows as the document tells of them, reckoned apart from the program, by Python's own fractions."""

import random
from fractions import Fraction
from math import gcd, isqrt, lcm

from geometry import formed, number, pair

# The sort of what each word makes, and the sorts of its grounds.
POINT, LINE, CIRCLE, CLAIM = "point", "line", "circle", "claim"
MADE = {
    "free": (POINT, []), "middle": (POINT, [POINT] * 2), "next": (POINT, [POINT] * 2), "turn": (POINT, [POINT] * 2),
    "share": (POINT, [POINT] * 2), "foot": (POINT, [POINT, LINE]), "mirror": (POINT, [POINT, LINE]),
    "meet": (POINT, [LINE] * 2), "cut": (POINT, [LINE + CIRCLE, CIRCLE]), "line": (LINE, [POINT] * 2),
    "along": (LINE, [POINT, LINE]), "upright": (LINE, [POINT, LINE]), "circle": (CIRCLE, [POINT] * 2),
    "inline": (CLAIM, [POINT] * 3), "round": (CLAIM, [POINT] * 4), "alike": (CLAIM, [POINT] * 4),
    "beside": (CLAIM, [LINE] * 2), "square": (CLAIM, [LINE] * 2),
}
# Words of the page, which are names like any other.
NAMES = ["free", "gone", "kept", "line", "circle", "at", "same", "cut", "point", "claim", "middle", "miss", "broken",
         "root", "curve", "parallel", "centre", "round", "share", "none", "true", "name", "word", "x", "y"]


def names_in(making):
    return [part for part in making[1:] if isinstance(part, str)]


def sorts_in(row):
    return {name: MADE[making[0]][0] for name, making in row}


def hung(row, name):
    """All that a thing hangs on, a set."""
    makings = dict(row)
    found = set()
    for ground in names_in(makings[name]):
        found |= {ground} | hung(row, ground)
    return found


def weights(row):
    told, sorts = {}, sorts_in(row)
    for name, making in row:
        word, on = making[0], [told[ground] for ground in names_in(making)]
        factors = [1] * len(on)
        if word in ("foot", "mirror"):
            factors = [1, 2]
        if word == "cut":
            factors = [5, 5] if sorts[making[1]] == CIRCLE else [2, 1]
        if word in ("round", "alike"):
            factors = [2] * 4
        told[name] = sum(one * factor for one, factor in zip(on, factors)) if on else 1
    return [told[name] for name, making in row]


def root_of(one):
    told = Fraction(isqrt(one.numerator), isqrt(one.denominator))
    return told if told * told == one else None


def line_of(a, b, c):
    """The one form of a line whose three numbers are fractions."""
    many = lcm(a.denominator, b.denominator, c.denominator)
    return formed(int(a * many), int(b * many), int(c * many))


def line_and_circle(line, circle):
    """A word, or the two places that both have, in their order."""
    (a, b, c), (x, y, s) = line, circle
    e, n = c - a * x - b * y, a * a + b * b
    d = s * n - e * e
    if d < 0:
        return "miss"
    r = root_of(Fraction(d))
    if r is None:
        return "root"
    x, y = x + a * e / n, y + b * e / n
    return sorted([(x + r * b / n, y - r * a / n), (x - r * b / n, y + r * a / n)])


def two_circles(one, other):
    (x, y, s), (u, v, t) = one, other
    if (x, y) == (u, v):
        return "centre"
    line = (2 * (u - x), 2 * (v - y), u * u + v * v - x * x - y * y + s - t)
    return line_and_circle(line, one)


def square_of(p, q):
    return (p[0] - q[0]) ** 2 + (p[1] - q[1]) ** 2


def foot(p, line):
    (x, y), (a, b, c) = p, line
    step = (c - a * x - b * y) / (a * a + b * b)
    return (x + a * step, y + b * step)


def share(p, q, t):
    return (p[0] + t * (q[0] - p[0]), p[1] + t * (q[1] - p[1]))


def crossed(p, q, r):
    return (q[0] - p[0]) * (r[1] - p[1]) - (q[1] - p[1]) * (r[0] - p[0])


def is_round(p, q, r, s):
    if len({p, q, r, s}) < 4:
        return True
    if crossed(p, q, r) == 0:
        return crossed(p, q, s) == 0
    one, other, both = square_of(p, q), square_of(p, r), 2 * crossed(p, q, r)
    x = p[0] + (one * (r[1] - p[1]) - other * (q[1] - p[1])) / both
    y = p[1] + (other * (q[0] - p[0]) - one * (r[0] - p[0])) / both
    return square_of(s, (x, y)) == square_of(p, (x, y))


def point_made(making, on):
    word = making[0]
    if word == "free":
        return (number(making[1]), number(making[2]))
    one, other = on
    if word == "middle":
        return share(one, other, Fraction(1, 2))
    if word == "next":
        return share(one, other, 2)
    if word == "share":
        return share(one, other, number(making[3]))
    if word == "turn":
        return (other[0] - (one[1] - other[1]), other[1] + (one[0] - other[0]))
    if word == "foot":
        return foot(one, other)
    if word == "mirror":
        return share(one, foot(one, other), 2)
    (a, b, c), (d, e, f) = one, other
    if a * e == b * d:
        return "parallel"
    return ((c * e - b * f) / (a * e - b * d), (a * f - c * d) / (a * e - b * d))


def line_made(word, one, other):
    if word == "line":
        if one == other:
            return "same"
        a, b = one[1] - other[1], other[0] - one[0]
    else:
        a, b = other[:2] if word == "along" else (other[1], -other[0])
    x, y = one
    return tuple(Fraction(part) for part in line_of(Fraction(a), Fraction(b), Fraction(a * x + b * y)))


def claimed(word, on):
    if word == "inline":
        return crossed(*on) == 0
    if word == "round":
        return is_round(*on)
    if word == "alike":
        return square_of(on[0], on[1]) == square_of(on[2], on[3])
    (a, b, c), (d, e, f) = on
    return a * e == b * d if word == "beside" else a * d + b * e == 0


def made(making, on, sorts):
    """What a making is of what its grounds are; a text where it fails, with that word."""
    word = making[0]
    sort = MADE[word][0]
    if word == "cut":
        found = line_and_circle(*on) if sorts[making[1]] == LINE else two_circles(*on)
        return found if isinstance(found, str) else found[making[3] - 1]
    if sort == POINT:
        return point_made(making, on)
    if sort == LINE:
        return line_made(word, *on)
    if sort == CIRCLE:
        return "same" if on[0] == on[1] else (*on[0], square_of(*on))
    return claimed(word, on)


def told(sort, worth):
    if sort == POINT:
        return ("at", *(pair(part) for part in worth))
    if sort == LINE:
        return ("line", *(int(part) for part in worth))
    if sort == CIRCLE:
        return ("circle", *(pair(part) for part in worth))
    return ("kept",) if worth else ("broken",)


def tellings(row):
    """What each thing tells, by points 20 to 22 word for word."""
    sorts, worths, failing, answers = sorts_in(row), {}, {}, []
    for name, making in row:
        first = [(other, failing[other]) for other, each in row if other in failing and other in hung(row, name)]
        if first:
            answers.append(("gone", *first[0]))
            continue
        worth = made(making, [worths[ground] for ground in names_in(making)], sorts)
        if isinstance(worth, str):
            failing[name] = worth
            answers.append(("gone", name, worth))
        else:
            worths[name] = worth
            answers.append(told(sorts[name], worth))
    return answers


def some_part(chance, bound):
    """A fraction whose top and bottom are below the bound."""
    while True:
        top, bottom = chance.randrange(1 - bound, bound), chance.randrange(1, bound)
        if gcd(top, bottom) == 1:
            return (top, bottom)


def some_making(chance, sorts, far, parts):
    """A making of things that are there, free points at whole numbers below far; None where there is none."""
    word = chance.choice(list(MADE)) if len(sorts) > 3 else "free"
    if word == "free":
        if far > 1000:
            return ("free", some_part(chance, far), some_part(chance, far))
        return ("free", (chance.randrange(-far, far), 1), (chance.randrange(-far, far), 1))
    on = []
    for due in MADE[word][1]:
        fitting = [name for name in sorts if sorts[name] in due]
        # One name several times is rare, since most of what is so made fails.
        fitting = [name for name in fitting if name not in on or chance.random() < 0.1]
        if not fitting:
            return None
        on.append(chance.choice(fitting))
    more = {"share": [some_part(chance, parts)], "cut": [chance.choice((1, 2))]}.get(word, [])
    return (word, *on, *more)


def some_row(seed, many, far=4, parts=5):
    """A row of so many things, none above the weight 40, the first four of them free points."""
    chance = random.Random(seed)
    names = NAMES + [f"t{at}" for at in range(60)]
    chance.shuffle(names)
    row = []
    while len(row) < many:
        making = some_making(chance, sorts_in(row), far, parts)
        if making and weights(row + [(names[len(row)], making)])[-1] <= 40:
            row.append((names[len(row)], making))
    return row
