"""Numbers, makings and tellings as words, and words read as numbers and makings."""

from movebook.fracs import fraction
from movebook.makings import MORE, WORDS, wanted
from movebook.names import FIGURES

LONGEST_NUMBER = 60


def number_word(number):
    """A fraction as a word."""
    top, bottom = number
    return f"{top}" if bottom == 1 else f"{top}/{bottom}"


def part_word(part):
    """A part of a making or a telling as a word: a text, a whole number or a fraction."""
    if isinstance(part, str):
        return part
    return number_word((part, 1) if isinstance(part, int) else part)


def part_words(parts):
    """The parts of a making or a telling as words, a list."""
    return [part_word(part) for part in parts]


def read_number(word):
    """The fraction that the word is; None where it is no number."""
    top, slash, bottom = word.partition("/")
    if not is_figures(top.removeprefix("-")) or top == "-0":
        return None
    if slash == "":
        return (int(top), 1)
    if not is_figures(bottom) or bottom in ("0", "1"):
        return None
    number = (int(top), int(bottom))
    return number if fraction(number[0], number[1]) == number else None


def is_figures(text):
    """Whether a text is a whole number from 0 on, without a nought ahead, of not too many figures."""
    if len(text) < 1 or len(text) > LONGEST_NUMBER:
        return False
    for sign in text:
        if sign not in FIGURES:
            return False
    return text == "0" or text[0] != "0"


def read_place(words):
    """The place, or the way, that two words are; None where they are not two numbers."""
    numbers = [read_number(word) for word in words]
    return None if len(numbers) != 2 or None in numbers else tuple(numbers)


def read_making(words):
    """The making that the words are; None where they are none. Any word may stand where a name does."""
    if not words or words[0] not in WORDS:
        return None
    many = 1 + len(wanted(words))
    more = MORE.get(words[0], ())
    if len(words) != many + len(more):
        return None
    rest = [read_part(word, due) for word, due in zip(words[many:], more)]
    return None if None in rest else (*words[:many], *rest)


def read_part(word, due):
    """What stands behind a making's grounds, read from a word: a fraction, or 1 or 2; None where it is not."""
    if due == "fraction":
        return read_number(word)
    return int(word) if word in ("1", "2") else None
