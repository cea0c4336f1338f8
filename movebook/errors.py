"""The refusals of the book, each straight under BookError.

A refusal keeps what it tells as its own value. Its message is always a text
made here, so that no list of the caller's stays within the refusal.
"""


class BookError(ValueError):
    """Any refusal; its words are its class and the names that it tells, as a desk answers them."""

    def __init__(self, message="", words=()):
        ValueError.__init__(self, message)
        self.words = words


class BadName(BookError):
    """What was handed in as a name is no good name."""

    def __init__(self, name):
        BookError.__init__(self, f"no good name: {name}", ("BadName", name))
        self.name = name


class Taken(BookError):
    """The name is one that a thing already has."""

    def __init__(self, name):
        BookError.__init__(self, f"a thing has this name already: {name}", ("Taken", name))
        self.name = name


class NoThing(BookError):
    """No thing has this name."""

    def __init__(self, name):
        BookError.__init__(self, f"no thing has this name: {name}", ("NoThing", name))
        self.name = name


class WrongSort(BookError):
    """The thing is of another sort than is due there."""

    def __init__(self, name):
        BookError.__init__(self, f"a thing of another sort: {name}", ("WrongSort", name))
        self.name = name


class NotFree(BookError):
    """The thing is not made by "free"."""

    def __init__(self, name):
        BookError.__init__(self, f"not a free point: {name}", ("NotFree", name))
        self.name = name


class Far(BookError):
    """The making breaks the bounds of free points and shares."""

    def __init__(self, name):
        BookError.__init__(self, f"beyond the bounds: {name}", ("Far", name))
        self.name = name


class TooHeavy(BookError):
    """The thing would weigh more than it may."""

    def __init__(self, name):
        BookError.__init__(self, f"too heavy: {name}", ("TooHeavy", name))
        self.name = name


class Ring(BookError):
    """The thing would hang on itself."""

    def __init__(self, name):
        BookError.__init__(self, f"hangs on what would hang on it: {name}", ("Ring", name))
        self.name = name


class Locked(BookError):
    """A locked thing would tell otherwise, or go."""

    def __init__(self, name):
        BookError.__init__(self, f"a locked thing: {name}", ("Locked", name))
        self.name = name


class NoGroup(BookError):
    """No group has this name."""

    def __init__(self, name):
        BookError.__init__(self, f"no group has this name: {name}", ("NoGroup", name))
        self.name = name


class NoWatcher(BookError):
    """No watcher has this name."""

    def __init__(self, name):
        BookError.__init__(self, f"no watcher has this name: {name}", ("NoWatcher", name))
        self.name = name


class NoMark(BookError):
    """No mark has this name."""

    def __init__(self, name):
        BookError.__init__(self, f"no mark has this name: {name}", ("NoMark", name))
        self.name = name


class Rooted(BookError):
    """A thing made by "cut" stands where none may."""

    def __init__(self, name):
        BookError.__init__(self, f"made by cut: {name}", ("Rooted", name))
        self.name = name


class TooWide(BookError):
    """The thing has too many free points for its weight."""

    def __init__(self, name):
        BookError.__init__(self, f"too wide to be asked: {name}", ("TooWide", name))
        self.name = name


class Hung(BookError):
    """Other things hang on the one that is to go."""

    def __init__(self, names):
        BookError.__init__(self, "other things hang on it", ("Hung", *names))
        # A copy: the caller may go on changing the list that was handed in.
        self.names = list(names)


class BadText(BookError):
    """A row of the text, counted from 1, is bad."""

    def __init__(self, number):
        # Python does not write out numbers of many thousand figures, so the message leaves it out.
        BookError.__init__(self, "a bad row in the text", ("BadText",))
        self.number = number


class Nought(BookError):
    """A form of the list, counted from 0, is nought."""

    def __init__(self, number):
        BookError.__init__(self, "a form that is nought", ("Nought",))
        self.number = number


class NoNumber(BookError):
    """A number would be divided by nought."""

    def __init__(self):
        BookError.__init__(self, "nothing is divided by nought", ("NoNumber",))


class NoStep(BookError):
    """There is no state to go to."""

    def __init__(self):
        BookError.__init__(self, "there is no state to go to", ("NoStep",))
