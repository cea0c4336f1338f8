"""Whether a claim holds wherever its free points are put."""

from movebook.forms import off_nought
from movebook.worked import asked, claim_of, forms_of, frees, hinges_of, unknowns


def ever(row, name):
    """How the claim stands: "always", "breaks" or "never", and places of its free points that show it."""
    own = asked(row, name, ("claim",))
    forms = forms_of(own)
    hinge_forms = [form for other, form in hinges_of(own, forms)]
    # A hinge that is nought everywhere belongs to a thing that fails wherever its grounds stand.
    if () in hinge_forms:
        return ("never", [])
    claim = claim_of(own, forms)
    if claim == ():
        return ("always", places(own, hinge_forms))
    return ("breaks", places(own, [*hinge_forms, claim]))


def places(own, forms):
    """Tuples (name, place), one for each free point of the row, such that none of the forms is nought there."""
    # The first two stand at (0, 0) and (1, 0), as in the forms.
    numbers = [0, 0, 1, 0, *off_nought(unknowns(own), forms)]
    return [(name, ((numbers[2 * at], 1), (numbers[2 * at + 1], 1))) for at, name in enumerate(frees(own))]
