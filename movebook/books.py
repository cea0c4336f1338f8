"""Books: a drawing that is kept, moved and asked, with the line of its states."""

from movebook.deeds import (
    grouping, hushing, locking, putting, renaming, taking, ungrouping, unlocking, unwatching, watching,
)
from movebook.errors import BadName, NoMark, NoStep, NoWatcher
from movebook.ever import ever
from movebook.moves import moving, rehanging, shifting
from movebook.names import good
from movebook.rows import above, beneath, refuse_missing, weights
from movebook.states import empty_state, in_order, making_in, row_names, sets_of, sheet_of, telling_in


class Book:
    """A book, empty at first."""

    def __init__(self):
        # The line of the states, the number of the one where the book stands, and those of the marked ones.
        self.states = [empty_state()]
        self.at = 0
        self.marked = {}

    def state(self):
        """The state where the book stands."""
        return self.states[self.at]

    def done(self, state):
        """Puts a new state at the line's end, behind the one where the book stands, and stands there."""
        self.states = [*self.states[:self.at + 1], state]
        self.marked = {name: self.marked[name] for name in self.marked if self.marked[name] <= self.at}
        self.at += 1

    def put(self, name, making):
        """Puts a thing last in the row."""
        self.done(putting(self.state(), name, making))

    def move(self, name, place):
        """Moves a free point; the names of what tells otherwise."""
        state, names = moving(self.state(), name, place)
        self.done(state)
        return names

    def shift(self, group, by):
        """Moves the free points of a group by (dx, dy); the names of what tells otherwise."""
        state, names = shifting(self.state(), group, by)
        self.done(state)
        return names

    def rehang(self, name, making):
        """Makes a thing otherwise; the names of what tells otherwise."""
        state, names = rehanging(self.state(), name, making)
        self.done(state)
        return names

    def take(self, name, whole):
        """Takes a thing out, whole or alone; the names of what went."""
        state, names = taking(self.state(), name, whole)
        self.done(state)
        return names

    def rename(self, name, other):
        """Gives a thing another name."""
        self.done(renaming(self.state(), name, other))

    def lock(self, name):
        """Locks a thing."""
        self.done(locking(self.state(), name))

    def unlock(self, name):
        """Unlocks a thing."""
        self.done(unlocking(self.state(), name))

    def group(self, name, names):
        """Sets a group of these things."""
        self.done(grouping(self.state(), name, names))

    def ungroup(self, name):
        """Ends a group; its things stay."""
        self.done(ungrouping(self.state(), name))

    def watch(self, name, names):
        """Sets a watcher of these things, or of all where names is None."""
        self.done(watching(self.state(), name, names))

    def unwatch(self, name):
        """Ends a watcher."""
        self.done(unwatching(self.state(), name))

    def hush(self, name):
        """Makes a watcher have heard nothing."""
        self.done(hushing(self.state(), name))

    def undo(self):
        """Stands one state back."""
        if self.at == 0:
            raise NoStep()
        self.at -= 1

    def again(self):
        """Stands one state on."""
        if self.at == len(self.states) - 1:
            raise NoStep()
        self.at += 1

    def mark(self, name):
        """Marks the state where the book stands."""
        if not good(name):
            raise BadName(name)
        self.marked[name] = self.at

    def back(self, name):
        """Stands at the marked state."""
        if name not in self.marked:
            raise NoMark(name)
        self.at = self.marked[name]

    def steps(self):
        """The number of the state where the book stands, and how many states come after it."""
        return (self.at, len(self.states) - 1 - self.at)

    def marks(self):
        """Tuples (name, number of the marked state), sorted by the numbers, then by the names."""
        pairs = sorted([(self.marked[name], name) for name in self.marked])
        return [(name, number) for number, name in pairs]

    def twin(self):
        """A book like this one in all, of which nothing changes this one."""
        other = Book()
        other.states = list(self.states)
        other.at = self.at
        other.marked = dict(self.marked)
        return other

    def row(self):
        """The names of the things, in the row's order."""
        return row_names(self.state())

    def making(self, name):
        """The making of a thing."""
        return making_in(self.state(), name)

    def telling(self, name):
        """What a thing tells."""
        return telling_in(self.state(), name)

    def sheet(self):
        """Tuples (name, making, telling), in the row's order."""
        return sheet_of(self.state())

    def weight(self, name):
        """The weight of a thing."""
        things = self.state().things
        refuse_missing(things, name)
        return weights(things)[self.row().index(name)]

    def beneath(self, name):
        """The names of all that a thing hangs on, in the row's order."""
        return beneath(self.state().things, name)

    def above(self, name):
        """The names of all that hangs on a thing, in the row's order."""
        return above(self.state().things, name)

    def ever(self, name):
        """How a claim stands wherever its free points are put."""
        return ever(self.state().things, name)

    def locked(self):
        """The names of the locked things, in the row's order."""
        return list(in_order(self.state(), self.state().locks))

    def groups(self):
        """Tuples (name, names) of the groups, sorted by their names."""
        return sets_of(self.state(), self.state().bands)

    def watchers(self):
        """Tuples (name, names) of the watchers, sorted by their names; names is None for one of all things."""
        return sets_of(self.state(), self.state().eyes)

    def heard(self, name):
        """The tuples of names that a watcher heard, the eldest first."""
        if name not in self.state().hearings:
            raise NoWatcher(name)
        return list(self.state().hearings[name])


def begun(book):
    """A book that begins with the state where the given one stands."""
    other = Book()
    other.states = [book.state()]
    return other
