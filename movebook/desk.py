"""The desk: a book that is told lines and answers them."""

from movebook.books import Book
from movebook.errors import BookError
from movebook.orders import FORMS, arguments, carry_out
from movebook.words import number_word, part_words

# The questions; of some of them a name follows.
QUESTIONS = {
    "row": "nothing", "locked": "nothing", "beneath": "name", "above": "name", "making": "name", "telling": "name",
    "weight": "name", "groups": "nothing", "watchers": "nothing", "heard": "name", "steps": "nothing",
    "marks": "nothing", "ever": "name",
}


class Desk:
    """A desk, its book empty at first."""

    def __init__(self):
        self.kept = Book()

    def told(self, line):
        """The answer to a line."""
        words = line.split(" ")
        handed = handed_in(words)
        if handed is None:
            return "refused BadLine"
        try:
            return " ".join(answer(self.kept, words[0], handed))
        except BookError as refusal:
            return " ".join(["refused", *refusal.words])

    def book(self):
        """A twin of the desk's book."""
        return self.kept.twin()


def handed_in(words):
    """What a line hands in behind its first word, a list; None where it is none of the forms."""
    if "" in words:
        return None
    form = QUESTIONS.get(words[0], FORMS.get(words[0], ""))
    return arguments(form, words[1:])


def answer(book, word, handed):
    """The words of the answer to a line."""
    if word in QUESTIONS:
        return [word, *asked(book, word, handed)]
    return ["done", *carry_out(book, word, handed)]


def asked(book, word, handed):
    """What a question is answered by, words behind its first one."""
    match word:
        case "row":
            return book.row()
        case "locked":
            return book.locked()
        case "beneath":
            return book.beneath(*handed)
        case "above":
            return book.above(*handed)
        case "making":
            return part_words(book.making(*handed))
        case "telling":
            return part_words(book.telling(*handed))
        case "weight":
            return part_words([book.weight(*handed)])
        case "groups":
            return [f"{name}:{listed(names)}" for name, names in book.groups()]
        case "watchers":
            return [f"{name}:{listed(names)}" for name, names in book.watchers()]
        case "heard":
            return [listed(names) for names in book.heard(*handed)]
        case "steps":
            return part_words(book.steps())
        case "marks":
            return [f"{name}:{number}" for name, number in book.marks()]
        case "ever":
            word_told, places = book.ever(*handed)
            return [word_told, *place_words(places)]


def listed(names):
    """Names with commas between; * for all things."""
    return "*" if names is None else ",".join(names)


def place_words(places):
    """Of each free point its name, x and y."""
    words = []
    for name, (x, y) in places:
        words.extend([name, number_word(x), number_word(y)])
    return words
