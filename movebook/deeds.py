"""The deeds that answer nothing, and taking out: each makes the next state of a state, or is refused."""

from movebook.errors import BadName, Hung, Locked, NoGroup, NoThing, NoWatcher, Taken
from movebook.makings import grounds
from movebook.names import good
from movebook.rows import above, check_next, refuse_missing, sorts_of, weights
from movebook.states import next_state, row_names
from movebook.tellings import telling


def putting(state, name, making):
    """The state with a new thing, last in the row."""
    names = row_names(state)
    check_next(name, making, sorts_of(state.things), dict(zip(names, weights(state.things))))
    new = next_state(state)
    new.things = [*state.things, (name, making)]
    order = {other: at for at, other in enumerate([*names, name])}
    new.tellings = {**state.tellings, name: telling(name, making, state.tellings, order)}
    return new


def taking(state, name, whole):
    """The state without a thing and all that hangs on it, and the names of what went."""
    hanging = above(state.things, name)
    if hanging and not whole:
        raise Hung(hanging)
    # What hangs on a thing stands behind it in the row.
    going = [name, *hanging]
    # So nothing locked goes, and the locks stay as they are.
    refuse_locked(state, going)
    new = next_state(state)
    new.things = [(other, making) for other, making in state.things if other not in going]
    new.tellings = without(state.tellings, going)
    new.bands = {band: left_of(state.bands[band], going) for band in state.bands}
    new.eyes = {eye: left_of(state.eyes[eye], going) for eye in state.eyes}
    return (new, going)


def refuse_locked(state, names):
    """Refuses the first of the names whose thing is locked."""
    for name in names:
        if name in state.locks:
            raise Locked(name)


def without(table, names):
    """The table without the entries of these names."""
    return {name: table[name] for name in table if name not in names}


def left_of(names, going):
    """The names that do not go; None, for all things, stays."""
    return None if names is None else tuple([name for name in names if name not in going])


def renaming(state, name, other):
    """The state in which a thing has another name."""
    refuse_missing(state.things, name)
    if not good(other):
        raise BadName(other)
    if other in row_names(state):
        raise Taken(other)
    new = next_state(state)
    new.things = [(swapped(one, name, other), rehung_on(making, name, other)) for one, making in state.things]
    new.tellings = {swapped(one, name, other): retold(state.tellings[one], name, other) for one in state.tellings}
    new.locks = {swapped(one, name, other): True for one in state.locks}
    new.bands = {band: all_swapped(state.bands[band], name, other) for band in state.bands}
    new.eyes = {eye: all_swapped(state.eyes[eye], name, other) for eye in state.eyes}
    return new


def swapped(one, name, other):
    """The other name where the one is the name, else the one."""
    return other if one == name else one


def all_swapped(names, name, other):
    """The names, with the other in the place of the name; None, for all things, stays."""
    return None if names is None else tuple([swapped(one, name, other) for one in names])


def rehung_on(making, name, other):
    """The making, with the other in the place of the name among its grounds."""
    # The word of a making, and what stands behind its grounds, is no name even where it is the same text.
    on = all_swapped(grounds(making), name, other)
    return (making[0], *on, *making[1 + len(on):])


def retold(told, name, other):
    """The telling, with the other name where it tells the name as that of the thing that fails."""
    return ("gone", swapped(told[1], name, other), told[2]) if told[0] == "gone" else told


def locking(state, name):
    """The state in which a thing is locked."""
    refuse_missing(state.things, name)
    new = next_state(state)
    new.locks = {**state.locks, name: True}
    return new


def unlocking(state, name):
    """The state in which a thing is not locked."""
    refuse_missing(state.things, name)
    new = next_state(state)
    new.locks = without(state.locks, [name])
    return new


def grouping(state, name, names):
    """The state with a group of these things."""
    check_set(state, name, names)
    new = next_state(state)
    new.bands = {**state.bands, name: tuple(names)}
    return new


def check_set(state, name, names):
    """Refuses a name that is no good name, then the first of the names that is no thing's."""
    if not good(name):
        raise BadName(name)
    there = row_names(state)
    for one in names:
        if one not in there:
            raise NoThing(one)


def ungrouping(state, name):
    """The state without a group."""
    if name not in state.bands:
        raise NoGroup(name)
    new = next_state(state)
    new.bands = without(state.bands, [name])
    return new


def watching(state, name, names):
    """The state with a watcher of these things, or of all where names is None, that has heard nothing."""
    check_set(state, name, [] if names is None else names)
    new = next_state(state)
    new.eyes = {**state.eyes, name: None if names is None else tuple(names)}
    new.hearings = {**state.hearings, name: ()}
    return new


def unwatching(state, name):
    """The state without a watcher."""
    refuse_unwatched(state, name)
    new = next_state(state)
    new.eyes = without(state.eyes, [name])
    new.hearings = without(state.hearings, [name])
    return new


def hushing(state, name):
    """The state in which a watcher has heard nothing."""
    refuse_unwatched(state, name)
    new = next_state(state)
    new.hearings = {**state.hearings, name: ()}
    return new


def refuse_unwatched(state, name):
    """Refuses a name that no watcher has."""
    if name not in state.eyes:
        raise NoWatcher(name)
