"""Books as texts, and texts read as books."""

from movebook.books import Book, begun
from movebook.errors import BadText, BookError
from movebook.orders import FORMS, arguments, carry_out
from movebook.words import part_words

# The first words of a text's rows, and the number of the part of the text in which such rows stand.
PARTS = {"put": 0, "lock": 1, "group": 2, "watch": 3, "watchall": 3}


def written(book):
    """The text of a book."""
    rows = [["put", name, *part_words(making)] for name, making, told in book.sheet()]
    rows.extend([["lock", name] for name in book.locked()])
    rows.extend([["group", name, *names] for name, names in book.groups()])
    rows.extend([["watchall", name] if names is None else ["watch", name, *names] for name, names in book.watchers()])
    return "".join([" ".join(row) + "\n" for row in rows])


def read(text):
    """The book of a text."""
    book = Book()
    rows = text.split("\n")
    # What stands behind the last line feed is a row that is not ended, if it is anything.
    rest = rows.pop()
    last = (0, -1)
    for at, row in enumerate(rows):
        last = taken_in(book, row.split(" "), last)
        if last is None:
            raise BadText(at + 1)
    if rest != "":
        raise BadText(len(rows) + 1)
    # The rows were deeds; the book that is told has no steps.
    return begun(book)


def taken_in(book, words, last):
    """Does a row's deed and tells its place in the order of rows; None where it may not follow the last place."""
    if "" in words or words[0] not in PARTS:
        return None
    handed = arguments(FORMS[words[0]], words[1:])
    if handed is None:
        return None
    place = (PARTS[words[0]], rank(book, words[0], handed[0]))
    if not last < place or not sorted_in(book, handed):
        return None
    try:
        carry_out(book, words[0], handed)
    except BookError:
        return None
    return place


def rank(book, word, name):
    """What the rows of one part rise by: the places of things in the row, else names."""
    names = book.row()
    if word == "put":
        return len(names)
    if word == "lock":
        # One that is not there comes behind all, and is refused by the book.
        return names.index(name) if name in names else len(names)
    return name


def sorted_in(book, handed):
    """Whether a row's list of names, where it has one, is in the book's order, each name once."""
    if len(handed) < 2 or not isinstance(handed[1], list):
        return True
    return handed[1] == [name for name in book.row() if name in handed[1]]
