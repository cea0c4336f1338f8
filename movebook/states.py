"""The states of a book, and what is told of each.

A state is never changed once it stands in a book's line, so books may share it:
a deed sets what it changes in a new one, as new lists and dicts.
"""

from movebook.rows import refuse_missing


class State:
    """A row, what its things tell, the locked ones, groups, and watchers with what they heard."""

    def __init__(self):
        # The row, and what each of its things tells, by names.
        self.things = []
        self.tellings = {}
        # Of each locked thing True, by names.
        self.locks = {}
        # The things of each group and of each watcher, tuples by names; None for a watcher of all things.
        self.bands = {}
        self.eyes = {}
        # What each watcher heard, a tuple, the eldest first.
        self.hearings = {}


def empty_state():
    """The state with which a book begins."""
    return State()


def next_state(state):
    """A new state that has all that the given one has."""
    new = State()
    new.things = state.things
    new.tellings = state.tellings
    new.locks = state.locks
    new.bands = state.bands
    new.eyes = state.eyes
    new.hearings = state.hearings
    return new


def row_names(state):
    """The names of the things, in the row's order."""
    return [name for name, making in state.things]


def making_in(state, name):
    """The making of a thing."""
    refuse_missing(state.things, name)
    return dict(state.things)[name]


def telling_in(state, name):
    """What a thing tells."""
    refuse_missing(state.things, name)
    return state.tellings[name]


def sheet_of(state):
    """Tuples (name, making, telling), in the row's order."""
    return [(name, making, state.tellings[name]) for name, making in state.things]


def in_order(state, names):
    """Those of the row's names that are among the given ones, a tuple in the row's order, each once."""
    return tuple([name for name in row_names(state) if name in names])


def sets_of(state, table):
    """Tuples (name, names) of groups or watchers, sorted by their names; None stays for all things."""
    told = []
    for name in sorted(table):
        names = table[name]
        told.append((name, None if names is None else in_order(state, names)))
    return told
