"""Things worked into forms, so that it can be told how they stand wherever their free points are put."""

from movebook.errors import Rooted, TooWide, WrongSort
from movebook.makings import grounds, sort_of
from movebook.rows import beneath, weights
from movebook.workings import claim_form, figure_forms, free_at, hinge_of_line

# With so many free points a thing may weigh so much; with more of them it is too wide whatever it weighs.
WIDEST = {1: 24, 2: 24, 3: 24, 4: 12, 5: 8}


def free_points(row, name):
    """The names of the free points among the thing and all that it hangs on, in the row's order."""
    return frees(rooted_in(row, name))


def worked(row, name):
    """The three forms of a point or a line."""
    own = asked(row, name, ("point", "line"))
    return forms_of(own)[name]


def hinges(row, name):
    """Tuples (name, form), one for each thing that can fail among a point, line or claim and what it hangs on."""
    own = asked(row, name, ("point", "line", "claim"))
    return hinges_of(own, forms_of(own))


def claimed(row, name):
    """The form of a claim."""
    own = asked(row, name, ("claim",))
    return claim_of(own, forms_of(own))


def rooted_in(row, name):
    """The thing and all that it hangs on: a row itself, of which the thing is the last."""
    names = [*beneath(row, name), name]
    return [(other, making) for other, making in row if other in names]


def frees(own):
    """The names of the free points of the row."""
    return [name for name, making in own if making[0] == "free"]


def asked(row, name, sorts):
    """The thing and all that it hangs on; refuses what cannot be asked, or is of none of these sorts."""
    own = rooted_in(row, name)
    if sort_of(own[-1][1]) not in sorts:
        raise WrongSort(name)
    for other, making in own:
        if making[0] == "cut":
            raise Rooted(other)
    if weights(own)[-1] > WIDEST.get(len(frees(own)), 0):
        raise TooWide(name)
    return own


def unknowns(own):
    """How many unknowns the free points of the row have."""
    return 2 * max(len(frees(own)) - 2, 0)


def forms_of(own):
    """The three forms of each point and line of the row, by its name."""
    many = unknowns(own)
    order = frees(own)
    forms = {}
    for name, making in own:
        if making[0] == "free":
            forms[name] = free_at(order.index(name), many)
        elif sort_of(making) != "claim":
            one, other = [forms[ground] for ground in grounds(making)]
            forms[name] = figure_forms(making, one, other)
    return forms


def hinges_of(own, forms):
    """The hinges of the row's last thing."""
    found = []
    for name, making in own:
        if making[0] == "line":
            found.append((name, hinge_of_line(forms[name])))
        if making[0] == "meet":
            found.append((name, forms[name][2]))
    return found


def claim_of(own, forms):
    """The form of the claim that is the row's last thing."""
    making = own[-1][1]
    return claim_form(making[0], [forms[ground] for ground in grounds(making)])
