"""What the tests of books share: all that can be asked of a book, and checks of what is refused."""

from limits import Limited
from movebook.books import Book
from movebook.errors import BookError
from movebook.tellings import anew

DEEDS = ["put", "move", "shift", "rehang", "rename", "take", "lock", "unlock", "group", "ungroup", "watch",
         "unwatch", "hush"]


def at(x, y):
    """The place with these whole numbers."""
    return ((x, 1), (y, 1))


def free(x, y):
    return ("free", (x, 1), (y, 1))


def asked(book):
    """All that is asked of the state where the book stands, but ever."""
    names = book.row()
    return {
        "row": names, "sheet": book.sheet(), "locked": book.locked(), "groups": book.groups(),
        "watchers": book.watchers(), "heard": {name: book.heard(name) for name, watched in book.watchers()},
        "each": [(book.making(name), book.telling(name), book.weight(name), book.beneath(name), book.above(name))
                 for name in names],
    }


def line_of(book):
    """What is asked in each state of the book's line, from the first on; asked of a twin, so the book stays."""
    walker = book.twin()
    while walker.steps()[0] > 0:
        walker.undo()
    told = [asked(walker)]
    while walker.steps()[1] > 0:
        walker.again()
        told.append(asked(walker))
    return told


def everything(book):
    """All that can be asked of a book, behind each undo and again, too."""
    return (asked(book), book.steps(), book.marks(), line_of(book))


def refusal_of(error):
    """The word of a refusal, and its name, its names or its number, or None."""
    told = [getattr(error, part) for part in ("name", "names", "number") if hasattr(error, part)]
    return (type(error).__name__, told[0] if told else None)


def built(*rows):
    """A book with these things."""
    book = Book()
    for name, making in rows:
        book.put(name, making)
    return book


class Booked(Limited):
    def refused(self, book, word, told, deed, *arguments):
        """The deed is refused so, and behind it all is as it was."""
        before = everything(book)
        with self.assertRaises(BookError) as caught:
            getattr(book, deed)(*arguments)
        self.assertEqual(refusal_of(caught.exception), (word, told))
        self.assertEqual(everything(book), before)

    def answers(self, book, answer, deed, *arguments):
        """The deed is done with that answer, and is one more state; what is told is what a new book tells."""
        before = line_of(book)[:book.steps()[0] + 1]
        told = getattr(book, deed)(*arguments)
        self.assertEqual(told, answer)
        self.assertIs(type(told), type(answer))
        self.assertEqual(book.steps(), (len(before), 0))
        self.assertEqual(line_of(book)[:-1], before)
        self.assert_as_new(book)

    def assert_as_new(self, book):
        """Each thing tells what a new book with the same makings, put one after another, tells."""
        row = [(name, making) for name, making, telling in book.sheet()]
        self.assertEqual([telling for name, making, telling in book.sheet()], anew(row))
        self.assertEqual(built(*row).sheet(), book.sheet())
