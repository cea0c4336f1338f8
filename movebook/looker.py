"""The looker: whether a sheet is one that some book could tell."""

from movebook.errors import BookError
from movebook.fracs import fraction
from movebook.makings import MORE, WORDS, wanted
from movebook.tellings import anew


def looks(sheet):
    """Whether the names and makings are a row, and each telling is the one that its making tells."""
    for name, making, told in sheet:
        if not is_making(making):
            return False
    try:
        tellings = anew([(name, making) for name, making, told in sheet])
    except BookError:
        return False
    return tellings == [told for name, making, told in sheet]


def is_making(making):
    """Whether a tuple is one of the makings: its word, so many names, and what else the word asks for."""
    if making[0] not in WORDS:
        return False
    names = making[1:1 + len(wanted(making))]
    rest = making[1 + len(names):]
    more = MORE.get(making[0], ())
    if len(names) < len(wanted(making)) or len(rest) != len(more):
        return False
    return all([isinstance(name, str) for name in names]) and all([is_part(part, due) for part, due in zip(rest, more)])


def is_part(part, due):
    """Whether a part of a making is what is due there: a fraction, or 1 or 2."""
    if due == "fraction":
        return isinstance(part, tuple) and is_fraction(part)
    return isinstance(part, int) and part in (1, 2)


def is_fraction(pair):
    """Whether a tuple of two whole numbers is a fraction: in lowest terms, its bottom from 1 on."""
    return pair[1] > 0 and fraction(pair[0], pair[1]) == pair
