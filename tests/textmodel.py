"""Texts and lines as the document tells of them, apart from the program."""

from fractions import Fraction
from functools import lru_cache

import model
from bookmodel import ModelBook, Refused
from geometry import pair


def number_text(number):
    """Python's own fractions are written as the document's numbers are."""
    return str(Fraction(*number)) if isinstance(number, tuple) else str(number)


def words_of(parts):
    return [part if isinstance(part, str) else number_text(part) for part in parts]


def row_text(*words):
    return " ".join(words) + "\n"


def book_text(book):
    """The text of a book, from what it answers."""
    text = "".join(row_text("put", name, *words_of(book.making(name))) for name in book.row())
    text += "".join(row_text("lock", name) for name in book.locked())
    text += "".join(row_text("group", name, *names) for name, names in book.groups())
    for name, names in book.watchers():
        text += row_text("watchall", name) if names is None else row_text("watch", name, *names)
    return text


def loose_making(words):
    """A making read from words that may be written in many ways; numbers as Python reads them."""
    many = len(model.MADE[words[0]][1])
    on, rest = words[1:1 + many], words[1 + many:]
    if len(on) < many or len(rest) != {"free": 2, "share": 1, "cut": 1}.get(words[0], 0):
        raise ValueError
    if words[0] == "cut":
        if int(rest[0]) not in (1, 2):
            raise ValueError
        return (words[0], *on, int(rest[0]))
    return (words[0], *on, *(pair(Fraction(part)) for part in rest))


def loose_book(rows):
    """A book made by rows that may be written in many ways."""
    book = ModelBook()
    for row in rows:
        first, name, *rest = row.split()
        if first == "put":
            book.put(name, loose_making(rest))
        elif first == "lock":
            book.lock(name)
        elif first == "group":
            book.group(name, rest)
        elif first == "watch":
            book.watch(name, rest)
        elif first == "watchall":
            book.watch(name, None)
        else:
            raise ValueError
    return book


@lru_cache(maxsize=None)
def is_text(rows):
    """Whether the rows, each ended, are the text of a book: that of the book that they loosely make."""
    try:
        return book_text(loose_book(rows)) == "".join(row + "\n" for row in rows)
    except (Refused, ValueError, KeyError, IndexError, ZeroDivisionError):
        return False


def first_bad(text):
    """The number of the first bad row; None where there is none."""
    *rows, rest = text.split("\n")
    for many in range(1, len(rows) + 1):
        if not is_text(tuple(rows[:many])):
            return many
    return len(rows) + 1 if rest else None


def line_for(deed, arguments):
    """The desk's line for a deed; None where a name is no word."""
    words = [deed]
    for part in arguments:
        if isinstance(part, str):
            words.append(part)
        elif isinstance(part, list):
            words.extend(part)
        elif isinstance(part, tuple):
            words.extend(words_of(part))
    if deed == "take" and arguments[1]:
        words[0] = "takeall"
    if deed == "watch" and arguments[1] is None:
        words[0] = "watchall"
    return None if any(word == "" or " " in word for word in words) else " ".join(words)


def joined(first, words):
    return " ".join([first, *words])


def listed(sets):
    return [f"{name}:{'*' if names is None else ','.join(names)}" for name, names in sets]


def refused_text(word, told):
    names = told if isinstance(told, list) else [] if told is None else [told]
    return joined("refused", [word, *names])


def questions(book):
    """Lines that ask of the book, with their answers."""
    told = {
        "row": joined("row", book.row()), "locked": joined("locked", book.locked()),
        "groups": joined("groups", listed(book.groups())), "watchers": joined("watchers", listed(book.watchers())),
        "steps": "steps {} {}".format(*book.steps()),
        "marks": joined("marks", [f"{name}:{number}" for name, number in book.marks()]),
    }
    for name in book.row():
        told[f"making {name}"] = joined("making", words_of(book.making(name)))
        told[f"telling {name}"] = joined("telling", words_of(book.telling(name)))
        told[f"weight {name}"] = f"weight {book.weight(name)}"
        told[f"beneath {name}"] = joined("beneath", book.beneath(name))
        told[f"above {name}"] = joined("above", book.above(name))
    for name, names in book.watchers():
        told[f"heard {name}"] = joined("heard", [",".join(one) for one in book.heard(name)])
    return told
