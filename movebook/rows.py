"""Rows: lists of tuples (name, making) in which each ground of a thing stands ahead of it."""

from movebook.errors import BadName, Far, NoThing, Taken, TooHeavy, WrongSort
from movebook.makings import fits, grounds, near, sort_of, wanted
from movebook.names import good

HEAVIEST = 40


def weights(row):
    """The weights of the row's things, a list in their order."""
    sorts = {}
    weighed = {}
    for name, making in row:
        enter(name, making, sorts, weighed)
    return list(weighed.values())


def beneath(row, name):
    """The names of all that the thing hangs on, in the row's order."""
    refuse_missing(row, name)
    found = {name: True}
    # From the row's end on, each thing comes ahead of its grounds.
    for other, making in reversed(row):
        if other in found:
            for ground in grounds(making):
                found[ground] = True
    return [other for other, making in row if other in found and other != name]


def above(row, name):
    """The names of all that hangs on the thing, in the row's order."""
    refuse_missing(row, name)
    return [other for other in with_above(row, [name]) if other != name]


def with_above(row, names):
    """The things of these names and all that hangs on them, in the row's order."""
    found = {}
    for other, making in row:
        if other in names or any([ground in found for ground in grounds(making)]):
            found[other] = True
    return list(found)


def sorts_of(row):
    """The sort of each thing of the row, by its name."""
    return {name: sort_of(making) for name, making in row}


def refuse_missing(row, name):
    """Refuses a name that no thing of the row has."""
    if name not in [other for other, making in row]:
        raise NoThing(name)


def weight(making, sorts, weighed):
    """The weight of a thing so made; sorts and weighed tell each ground's sort and weight by its name."""
    word = making[0]
    if word == "free":
        return 1
    names = grounds(making)
    loads = [weighed[name] for name in names]
    if word in ("foot", "mirror"):
        return loads[0] + 2 * loads[1]
    if word == "cut" and sorts[names[0]] == "circle":
        return 5 * sum(loads)
    if word == "cut":
        return 2 * loads[0] + loads[1]
    if word in ("round", "alike"):
        return 2 * sum(loads)
    return sum(loads)


def enter(name, making, sorts, weighed):
    """Sets down the sort and the weight of the row's next thing."""
    weighed[name] = weight(making, sorts, weighed)
    sorts[name] = sort_of(making)


def check_row(row):
    """Refuses the first thing of the list that may not stand next in the row of those ahead of it."""
    sorts = {}
    weighed = {}
    for name, making in row:
        check_next(name, making, sorts, weighed)
        enter(name, making, sorts, weighed)


def check_next(name, making, sorts, weighed):
    """Refuses a thing that may not stand next in the row; sorts and weighed tell of its things by name."""
    if not good(name):
        raise BadName(name)
    if name in sorts:
        raise Taken(name)
    check_grounds(making, sorts)
    if not near(making):
        raise Far(name)
    if weight(making, sorts, weighed) > HEAVIEST:
        raise TooHeavy(name)


def check_grounds(making, sorts):
    """Refuses the first ground that is not there, then the first that is of another sort."""
    names = grounds(making)
    for ground in names:
        if ground not in sorts:
            raise NoThing(ground)
    for ground, due in zip(names, wanted(making)):
        if not fits(sorts[ground], due):
            raise WrongSort(ground)
