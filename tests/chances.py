"""Deeds by chance, good ones and bad ones, for books and desks."""

import model

THINGS = ["a", "b", "c", "d", "free", "gone", "line", "kept", "put", "w1", "x2", "y3"]
SETS = ["g", "w", "a"]
BAD = ["", "A", "1a", "a b", "a" * 13, "-"]
PARTS = [(-2, 1), (-1, 1), (0, 1), (0, 1), (1, 1), (2, 1), (1, 2), (-3, 2)]
SHARES = [(0, 1), (1, 1), (1, 2), (-1, 3), (2, 1), (999, 998)]
FAR = [(10 ** 9, 1), (1, 10 ** 9), (-10 ** 9, 7)]


def place_by(chance):
    if chance.random() < 0.05:
        return (chance.choice(FAR), chance.choice(PARTS))
    return (chance.choice(PARTS), chance.choice(PARTS))


def thing_by(chance, row, missing=0.05):
    if not row or chance.random() < missing:
        return chance.choice(THINGS + BAD)
    return chance.choice(row)[0]


def making_by(chance, row):
    """A making whose grounds mostly are there, and mostly of the sorts that are due."""
    sorts = model.sorts_in(row)
    word = "free" if len(row) < 3 or chance.random() < 0.15 else chance.choice(list(model.MADE))
    if word == "free":
        return ("free", *place_by(chance))
    on = []
    for due in model.MADE[word][1]:
        fitting = [name for name in sorts if sorts[name] in due]
        on.append(chance.choice(fitting) if fitting and chance.random() < 0.96 else thing_by(chance, row))
    if word == "share":
        on.append(chance.choice(SHARES) if chance.random() < 0.95 else (1000, 7))
    if word == "cut":
        on.append(chance.choice((1, 2)))
    return (word, *on)


def names_by(chance, row):
    return [thing_by(chance, row, 0.02) for at in range(chance.randrange(5))]


def set_by(chance):
    return chance.choice(SETS) if chance.random() < 0.95 else chance.choice(BAD)


def deed_by(chance, row, many):
    """A deed and its arguments, for a book with that row, which is to have about so many things."""
    if len(row) < many and chance.random() < 0.5:
        name = chance.choice(THINGS + [f"t{at}" for at in range(many)] if chance.random() < 0.95 else BAD)
        return ("put", name, making_by(chance, row))
    frees = [name for name, making in row if making[0] == "free"]
    deed = chance.choice(["move"] * 6 + ["shift"] * 3 + ["rehang"] * 4 + ["take", "rename", "rename", "lock", "unlock"]
                         + ["group"] * 4 + ["watch", "watch", "hush", "undo", "undo", "again", "again", "mark", "back"]
                         + chance.choice([["ungroup"], ["unwatch"], ["move"]]))
    if deed == "move":
        name = chance.choice(frees) if frees and chance.random() < 0.9 else thing_by(chance, row)
        return (deed, name, place_by(chance))
    if deed == "shift":
        return (deed, set_by(chance), place_by(chance))
    if deed == "rehang":
        return (deed, thing_by(chance, row), making_by(chance, row))
    if deed == "take":
        return (deed, thing_by(chance, row), chance.random() < 0.4)
    if deed == "rename":
        return (deed, thing_by(chance, row), chance.choice(THINGS + BAD))
    if deed in ("lock", "unlock"):
        return (deed, thing_by(chance, row))
    if deed == "group":
        return (deed, set_by(chance), names_by(chance, row))
    if deed == "watch":
        return (deed, set_by(chance), chance.choice((None, names_by(chance, row))))
    if deed in ("undo", "again"):
        return (deed,)
    return (deed, set_by(chance))
