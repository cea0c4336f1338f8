"""The deeds behind which things may tell otherwise: move, shift and rehang."""

from movebook.deeds import refuse_locked
from movebook.errors import Far, NoGroup, NotFree, Ring, TooHeavy, WrongSort
from movebook.fracs import plus
from movebook.makings import grounds, near, sort_of
from movebook.rows import HEAVIEST, check_grounds, refuse_missing, sorts_of, weights, with_above
from movebook.states import making_in, next_state
from movebook.tellings import telling


def moving(state, name, place):
    """The state with a free point at another place, and the names of what tells otherwise."""
    if making_in(state, name)[0] != "free":
        raise NotFree(name)
    return remaking(state, {name: ("free", place[0], place[1])})


def shifting(state, name, by):
    """The state with the free points of a group moved alike, and the names of what tells otherwise."""
    if name not in state.bands:
        raise NoGroup(name)
    remade = {}
    for one, making in state.things:
        if one in state.bands[name] and making[0] == "free":
            remade[one] = ("free", plus(making[1], by[0]), plus(making[2], by[1]))
    return remaking(state, remade)


def remaking(state, remade):
    """The state with free points made anew, by their names in the row's order, and what tells otherwise."""
    for name in remade:
        if not near(remade[name]):
            raise Far(name)
    things = [(name, remade.get(name, making)) for name, making in state.things]
    return turning(state, things, with_above(things, list(remade)))


def rehanging(state, name, making):
    """The state with a thing made otherwise, and the names of what tells otherwise."""
    refuse_missing(state.things, name)
    sorts = sorts_of(state.things)
    check_grounds(making, sorts)
    if sort_of(making) != sorts[name]:
        raise WrongSort(name)
    going = with_above(state.things, [name])
    for ground in grounds(making):
        if ground in going:
            raise Ring(ground)
    if not near(making):
        raise Far(name)
    things = [(one, old) for one, old in state.things if one not in going]
    things.extend([(one, making if one == name else old) for one, old in state.things if one in going])
    # Only what goes to the end can have got heavier, and that keeps the order which it had.
    for (one, old), load in zip(things, weights(things)):
        if load > HEAVIEST:
            raise TooHeavy(one)
    return turning(state, things, going)


def turning(state, things, fresh):
    """The state with that row, of which the fresh things are to be reckoned anew, and what tells otherwise."""
    tellings = reckoned(state, things, fresh)
    names = [name for name, making in things if tellings[name] != state.tellings[name]]
    refuse_locked(state, names)
    new = next_state(state)
    new.things = things
    new.tellings = tellings
    new.hearings = {eye: state.hearings[eye] + heard_of(state.eyes[eye], names) for eye in state.eyes}
    return (new, names)


def reckoned(state, things, fresh):
    """What each thing of the row tells, by its name; with a fresh thing all that hangs on it is fresh, too."""
    told = {}
    order = {}
    for name, making in things:
        order[name] = len(order)
        told[name] = telling(name, making, told, order) if name in fresh else state.tellings[name]
    return told


def heard_of(watched, names):
    """What a watcher hears of the names, a tuple of one tuple or of none; watched is None for all things."""
    heard = tuple([name for name in names if watched is None or name in watched])
    return (heard,) if heard else ()
