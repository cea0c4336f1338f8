"""What the things of a row tell."""

from movebook.circles import about, line_cuts, ring_cuts
from movebook.judging import all_round, as_far, in_line, side_by_side, square_on
from movebook.lines import along, foot, meet, mirror, through, upright
from movebook.makings import grounds, sort_of
from movebook.places import beyond, middle, share, turned
from movebook.rows import check_row

# The first word of what a thing of each sort tells where it stands.
STANDING = {"point": "at", "line": "line", "circle": "circle"}
# The word with which a making fails; a cut's own answer tells its word.
FAILING = {"line": "same", "circle": "same", "meet": "parallel"}


def anew(row):
    """What the things tell, made one after another: a list in their order."""
    check_row(row)
    told = {}
    order = {}
    for name, making in row:
        order[name] = len(order)
        told[name] = telling(name, making, told, order)
    return list(told.values())


def telling(name, making, told, order):
    """What a thing tells; told is what each thing ahead of it tells, order its number in the row."""
    on = [told[ground] for ground in grounds(making)]
    gone = [one for one in on if one[0] == "gone"]
    if gone:
        # Each of these tells the first thing that fails itself, among all that its own ground hangs on.
        return min(gone, key=lambda one: order[one[1]])
    if making[0] == "cut":
        return cut(name, making[3], on[0], on[1])
    parts = [one[1:] for one in on]
    if sort_of(making) == "claim":
        return ("kept",) if holds(making[0], parts) else ("broken",)
    made = figure(making, parts)
    if made is None:
        return ("gone", name, FAILING[making[0]])
    return (STANDING[sort_of(making)], *made)


def cut(name, number, curve, ring):
    """What a cut tells: the place of that number, from 1, that its standing grounds have in common."""
    if curve[0] == "line":
        word, places = line_cuts(curve[1:], ring[1:])
    else:
        word, places = ring_cuts(curve[1:], ring[1:])
    if word == "at":
        return ("at", *places[number - 1])
    return ("gone", name, word)


def figure(making, parts):
    """The place, line or circle that is so made of its grounds; None where there is none."""
    if making[0] == "free":
        return making[1:]
    one, other = parts
    match making[0]:
        case "middle":
            return middle(one, other)
        case "next":
            return beyond(one, other)
        case "turn":
            return turned(one, other)
        case "share":
            return share(one, other, making[3])
        case "foot":
            return foot(one, other)
        case "mirror":
            return mirror(one, other)
        case "meet":
            return meet(one, other)
        case "line":
            return through(one, other)
        case "along":
            return along(one, other)
        case "upright":
            return upright(one, other)
        case "circle":
            return about(one, other)


def holds(word, parts):
    """Whether a claim of that word is so of its grounds."""
    match word:
        case "inline":
            return in_line(*parts)
        case "round":
            return all_round(*parts)
        case "alike":
            return as_far(*parts)
        case "beside":
            return side_by_side(*parts)
        case "square":
            return square_on(*parts)
