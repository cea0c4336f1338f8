"""The lines of a text or a desk that do something: how each is read, and what a book does by it."""

from movebook.words import read_making, read_place

# What follows the first word of each line: nothing, a name, two names, a name and any number of names, a name
# and a place, or a name and a making.
FORMS = {
    "put": "making", "rehang": "making", "move": "place", "shift": "place", "rename": "two", "take": "name",
    "takeall": "name", "lock": "name", "unlock": "name", "group": "list", "ungroup": "name", "watch": "list",
    "watchall": "name", "unwatch": "name", "hush": "name", "mark": "name", "back": "name", "undo": "nothing",
    "again": "nothing",
}


def arguments(form, words):
    """What the words behind the first one hand in, a list; None where they are not of that form."""
    match form:
        case "nothing":
            return [] if words == [] else None
        case "name":
            return list(words) if len(words) == 1 else None
        case "two":
            return list(words) if len(words) == 2 else None
        case "list":
            return [words[0], words[1:]] if words else None
        case "place":
            return with_name(words, read_place(words[1:]))
        case "making":
            return with_name(words, read_making(words[1:]))
        case _:
            return None


def with_name(words, read):
    """The first of the words, a name, and what was read from the others; None where that is None."""
    return None if read is None else [words[0], read]


def carry_out(book, word, handed):
    """Does to the book what a line of that first word tells; the names that it answers, a list."""
    match word:
        case "put":
            book.put(*handed)
        case "rehang":
            return book.rehang(*handed)
        case "move":
            return book.move(*handed)
        case "shift":
            return book.shift(*handed)
        case "rename":
            book.rename(*handed)
        case "take":
            return book.take(*handed, False)
        case "takeall":
            return book.take(*handed, True)
        case "lock":
            book.lock(*handed)
        case "unlock":
            book.unlock(*handed)
        case _:
            carry_out_more(book, word, handed)
    return []


def carry_out_more(book, word, handed):
    """Does what a line tells that is about groups, watchers or the line of states."""
    match word:
        case "group":
            book.group(*handed)
        case "ungroup":
            book.ungroup(*handed)
        case "watch":
            book.watch(*handed)
        case "watchall":
            book.watch(*handed, None)
        case "unwatch":
            book.unwatch(*handed)
        case "hush":
            book.hush(*handed)
        case "mark":
            book.mark(*handed)
        case "back":
            book.back(*handed)
        case "undo":
            book.undo()
        case "again":
            book.again()
