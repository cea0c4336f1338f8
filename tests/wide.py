"""What the tests of worked things and of ever share: rows without cuts, and places of their free points."""

import random
from fractions import Fraction

import model
from geometry import pair
from limits import Limited
from movebook.errors import BookError

# A row in which each making but circle and cut stands, with three free points.
EACH = [
    ("a", ("free", (0, 1), (0, 1))), ("b", ("free", (3, 1), (1, 1))), ("c", ("free", (1, 1), (4, 1))),
    ("mid", ("middle", "b", "c")), ("nxt", ("next", "a", "c")), ("trn", ("turn", "c", "b")),
    ("shr", ("share", "c", "a", (-2, 3))), ("ab", ("line", "a", "b")), ("bc", ("line", "b", "c")), ("ac", ("line", "a", "c")),
    ("ft", ("foot", "c", "ab")), ("mir", ("mirror", "a", "bc")), ("met", ("meet", "ab", "bc")),
    ("aln", ("along", "c", "ab")), ("upr", ("upright", "a", "bc")), ("met2", ("meet", "aln", "upr")),
    ("inl", ("inline", "a", "mid", "trn")), ("rnd", ("round", "a", "b", "c", "mid")), ("alk", ("alike", "a", "b", "c", "nxt")),
    ("bsd", ("beside", "aln", "ac")), ("sqr", ("square", "upr", "ab")), ("inl2", ("inline", "a", "ft", "met2")),
    ("rnd2", ("round", "a", "b", "ft", "c")), ("sqr2", ("square", "upr", "bc")), ("bsd2", ("beside", "upr", "aln")),
]


def sort_in(row, name):
    return model.sorts_in(row)[name]


def below(row, name):
    """The thing and all that it hangs on, in the row's order."""
    found = model.hung(row, name) | {name}
    return [(other, making) for other, making in row if other in found]


def frees_of(row, name):
    return [other for other, making in below(row, name) if making[0] == "free"]


def put_at(row, places):
    """The row with free points at other places, a dict of pairs of fractions by names."""
    return [(name, ("free", *(pair(part) for part in places[name])) if name in places else making)
            for name, making in row]


def set_down(names, numbers):
    """Places of free points: the first at (0, 0), the second at (1, 0), the others at the unknowns' numbers."""
    parts = [Fraction(0), Fraction(0), Fraction(1), Fraction(0), *numbers]
    return {name: (parts[2 * at], parts[2 * at + 1]) for at, name in enumerate(names)}


def told_at(row, name, places):
    """What the things among a thing and what it hangs on tell there, by names."""
    own = put_at(below(row, name), places)
    return dict(zip([other for other, making in own], model.tellings(own)))


def some_parts(chance, many):
    """Numbers for unknowns, small ones, so that much coincides."""
    kind = chance.random()
    if kind < 0.4:
        return [Fraction(chance.randrange(-1, 3)) for at in range(many)]
    if kind < 0.8:
        return [Fraction(chance.randrange(-3, 4), chance.choice((1, 1, 2, 3))) for at in range(many)]
    return [Fraction(chance.randrange(-50, 50), chance.randrange(1, 20)) for at in range(many)]


def some_flat_row(seed, frees, many, most=24):
    """A row of free points and things without circles and cuts, none above the weight most."""
    chance = random.Random(seed)
    row = [(f"f{at}", ("free", (at, 1), (at * at, 1))) for at in range(frees)]
    for step in range(4 * many):
        word = chance.choice([word for word in model.MADE if word not in ("free", "circle", "cut")])
        sorts = model.sorts_in(row)
        fitting = [[name for name in sorts if sorts[name] == due] for due in model.MADE[word][1]]
        if all(fitting) and len(row) < many:
            on = [chance.choice(names) for names in fitting]
            more = [model.some_part(chance, 7)] if word == "share" else []
            new = (f"t{len(row)}", (word, *on, *more))
            if model.weights(row + [new])[-1] <= most:
                row.append(new)
    return row


def too_wide(row, name):
    many, weight = len(frees_of(row, name)), dict(zip([other for other, making in row], model.weights(row)))[name]
    return many > 5 or weight > {5: 8, 4: 12}.get(many, 24)


class Asked(Limited):
    def refused(self, word, told, ask, row, name):
        kept = list(row)
        with self.assertRaises(BookError) as caught:
            ask(row, name)
        self.assertEqual((type(caught.exception).__name__, caught.exception.name), (word, told))
        self.assertEqual(row, kept)
