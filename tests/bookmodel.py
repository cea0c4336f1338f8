"""A book as the document tells of it, apart from the program: each state is whole, and reckoned anew when asked."""

import copy
import re

import model
from geometry import number, pair


class Refused(Exception):
    """The word of the refusal, and its name, its names or None."""

    def __init__(self, word, told=None):
        Exception.__init__(self, word, told)
        self.word, self.told = word, told


def good(name):
    return re.fullmatch(r"[a-z][a-z0-9]{0,11}", name) is not None


def far(making):
    bound = {"free": 10 ** 9, "share": 1000}.get(making[0])
    parts = [part for part in making[1:] if isinstance(part, tuple)]
    return any(abs(top) >= bound or bottom >= bound for top, bottom in parts)


def check_grounds(row, making):
    sorts = model.sorts_in(row)
    for ground in model.names_in(making):
        if ground not in sorts:
            raise Refused("NoThing", ground)
    for ground, due in zip(model.names_in(making), model.MADE[making[0]][1]):
        if sorts[ground] not in due:
            raise Refused("WrongSort", ground)


class State:
    def __init__(self):
        self.row, self.locks, self.groups, self.watchers, self.heard = [], set(), {}, {}, {}

    def names(self):
        return [name for name, making in self.row]

    def tellings(self):
        return dict(zip(self.names(), model.tellings(self.row)))

    def in_order(self, names):
        return [name for name in self.names() if name in names]

    def above(self, name):
        return [other for other in self.names() if name in model.hung(self.row, other)]

    def need(self, name):
        if name not in self.names():
            raise Refused("NoThing", name)


class ModelBook:
    def __init__(self):
        self.line, self.at, self.marked = [State()], 0, {}

    @property
    def now(self):
        return self.line[self.at]

    def done(self, state):
        self.line[self.at + 1:] = [state]
        self.marked = {name: at for name, at in self.marked.items() if at <= self.at}
        self.at += 1

    def new(self):
        return copy.deepcopy(self.now)

    # Deeds.

    def put(self, name, making):
        new = self.new()
        if not good(name):
            raise Refused("BadName", name)
        if name in new.names():
            raise Refused("Taken", name)
        check_grounds(new.row, making)
        new.row.append((name, making))
        if far(making):
            raise Refused("Far", name)
        if model.weights(new.row)[-1] > 40:
            raise Refused("TooHeavy", name)
        self.done(new)

    def told_otherwise(self, new, order):
        before, after = self.now.tellings(), new.tellings()
        changed = [name for name in order if before[name] != after[name]]
        for name in changed:
            if name in new.locks:
                raise Refused("Locked", name)
        for watcher, watched in new.watchers.items():
            hears = tuple(name for name in changed if watched is None or name in watched)
            if hears:
                new.heard[watcher].append(hears)
        self.done(new)
        return changed

    def move(self, name, place):
        new = self.new()
        new.need(name)
        if dict(new.row)[name][0] != "free":
            raise Refused("NotFree", name)
        if far(("free", *place)):
            raise Refused("Far", name)
        new.row = [(one, ("free", *place) if one == name else making) for one, making in new.row]
        return self.told_otherwise(new, new.names())

    def shift(self, group, by):
        new = self.new()
        if group not in new.groups:
            raise Refused("NoGroup", group)
        for at, (name, making) in enumerate(new.row):
            if making[0] == "free" and name in new.groups[group]:
                moved = ("free", *(pair(number(one) + number(more)) for one, more in zip(making[1:], by)))
                if far(moved):
                    raise Refused("Far", name)
                new.row[at] = (name, moved)
        return self.told_otherwise(new, new.names())

    def rehang(self, name, making):
        new = self.new()
        new.need(name)
        check_grounds(new.row, making)
        if model.MADE[making[0]][0] != model.sorts_in(new.row)[name]:
            raise Refused("WrongSort", name)
        hanging = new.above(name)
        for ground in model.names_in(making):
            if ground == name or ground in hanging:
                raise Refused("Ring", ground)
        if far(making):
            raise Refused("Far", name)
        order = new.names()
        makings = {**dict(new.row), name: making}
        last = [name] + hanging
        new.row = [(one, makings[one]) for one in [one for one in order if one not in last] + last]
        heavy = {one for one, weight in zip(new.names(), model.weights(new.row)) if weight > 40}
        for one in order:
            if one in heavy:
                raise Refused("TooHeavy", one)
        return self.told_otherwise(new, order)

    def take(self, name, whole):
        new = self.new()
        new.need(name)
        hanging = new.above(name)
        if hanging and not whole:
            raise Refused("Hung", hanging)
        going = new.in_order([name] + hanging)
        for one in going:
            if one in new.locks:
                raise Refused("Locked", one)
        new.row = [(one, making) for one, making in new.row if one not in going]
        new.locks -= set(going)
        for sets in (new.groups, new.watchers):
            for one in sets:
                sets[one] = None if sets[one] is None else sets[one] - set(going)
        self.done(new)
        return going

    def rename(self, name, other):
        new = self.new()
        new.need(name)
        if not good(other):
            raise Refused("BadName", other)
        if other in new.names():
            raise Refused("Taken", other)

        def swap(one):
            return other if one == name else one
        new.row = [(swap(one), (making[0], *(swap(part) for part in making[1:]))) for one, making in new.row]
        new.locks = {swap(one) for one in new.locks}
        for sets in (new.groups, new.watchers):
            for one in sets:
                sets[one] = None if sets[one] is None else {swap(each) for each in sets[one]}
        self.done(new)

    def lock(self, name):
        new = self.new()
        new.need(name)
        new.locks.add(name)
        self.done(new)

    def unlock(self, name):
        new = self.new()
        new.need(name)
        new.locks.discard(name)
        self.done(new)

    def set_of(self, new, name, names):
        if not good(name):
            raise Refused("BadName", name)
        for one in names or []:
            new.need(one)
        return None if names is None else set(names)

    def group(self, name, names):
        new = self.new()
        new.groups[name] = self.set_of(new, name, names)
        self.done(new)

    def watch(self, name, names):
        new = self.new()
        new.watchers[name] = self.set_of(new, name, names)
        new.heard[name] = []
        self.done(new)

    def ungroup(self, name):
        new = self.new()
        if name not in new.groups:
            raise Refused("NoGroup", name)
        del new.groups[name]
        self.done(new)

    def unwatch(self, name):
        new = self.new()
        self.heard(name)
        del new.watchers[name], new.heard[name]
        self.done(new)

    def hush(self, name):
        new = self.new()
        self.heard(name)
        new.heard[name] = []
        self.done(new)

    # The line of states.

    def undo(self):
        if self.at == 0:
            raise Refused("NoStep")
        self.at -= 1

    def again(self):
        if self.at + 1 == len(self.line):
            raise Refused("NoStep")
        self.at += 1

    def mark(self, name):
        if not good(name):
            raise Refused("BadName", name)
        self.marked[name] = self.at

    def back(self, name):
        if name not in self.marked:
            raise Refused("NoMark", name)
        self.at = self.marked[name]

    def steps(self):
        return (self.at, len(self.line) - self.at - 1)

    def marks(self):
        return sorted(self.marked.items(), key=lambda pair: (pair[1], pair[0]))

    def twin(self):
        return copy.deepcopy(self)

    def begun(self):
        other = ModelBook()
        other.line = [self.new()]
        return other

    # Questions.

    def row(self):
        return self.now.names()

    def sheet(self):
        told = self.now.tellings()
        return [(name, making, told[name]) for name, making in self.now.row]

    def making(self, name):
        self.now.need(name)
        return dict(self.now.row)[name]

    def telling(self, name):
        self.now.need(name)
        return self.now.tellings()[name]

    def weight(self, name):
        self.now.need(name)
        return dict(zip(self.row(), model.weights(self.now.row)))[name]

    def beneath(self, name):
        self.now.need(name)
        return self.now.in_order(model.hung(self.now.row, name))

    def above(self, name):
        self.now.need(name)
        return self.now.above(name)

    def locked(self):
        return self.now.in_order(self.now.locks)

    def groups(self):
        return [(name, tuple(self.now.in_order(names))) for name, names in sorted(self.now.groups.items())]

    def watchers(self):
        return [(name, None if self.now.watchers[name] is None else tuple(self.now.in_order(self.now.watchers[name])))
                for name in sorted(self.now.watchers)]

    def heard(self, name):
        if name not in self.now.watchers:
            raise Refused("NoWatcher", name)
        return list(self.now.heard[name])
