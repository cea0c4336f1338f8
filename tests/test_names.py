"""Good names: point 6."""

import unittest

from limits import Limited
from movebook.names import good

LETTERS = "abcdefghijklmnopqrstuvwxyz"
FIGURES = "0123456789"
SIGNS = [chr(code) for code in range(ord(" "), ord("~") + 1)]


class Good(Limited):
    def told(self, name, answer):
        self.assertIs(good(name), answer, repr(name))

    def test_ordinary_names(self):
        for name in ["a", "z", "abc", "a1", "p12", "x0y9z", "free", "gone", "kept", "a00000000000"]:
            self.told(name, True)

    def test_the_empty_text(self):
        self.told("", False)

    def test_length(self):
        for first in ["a", "m", "z"]:
            for many in range(1, 13):
                self.told(first * many, True)
                self.told(first + "7" * (many - 1), True)
            for many in [13, 14, 24, 60, 100, 4000, 100000]:
                self.told(first * many, False)
                self.told(first + "7" * (many - 1), False)

    def test_a_figure_first(self):
        for figure in FIGURES:
            for rest in ["", "a", "abc", "1", "a" * 11]:
                self.told(figure + rest, False)

    def test_every_sign_first(self):
        for sign in SIGNS:
            for rest in ["", "a", "b2", "c" * 11]:
                self.told(sign + rest, sign in LETTERS)

    def test_every_sign_in_the_middle(self):
        for sign in SIGNS:
            for name in ["a" + sign + "b", "a1" + sign + "2b", "a" * 5 + sign + "b" * 6]:
                self.told(name, sign in LETTERS + FIGURES)

    def test_every_sign_last(self):
        for sign in SIGNS:
            for name in ["a" + sign, "ab1" + sign, "a" * 11 + sign]:
                self.told(name, sign in LETTERS + FIGURES)

    def test_every_sign_at_every_place_of_the_longest(self):
        for sign in SIGNS:
            for at in range(1, 12):
                self.told("a" * at + sign + "z" * (11 - at), sign in LETTERS + FIGURES)

    def test_great_letters(self):
        for name in ["A", "Ab", "aB", "ABC", "abcdefghijkL"]:
            self.told(name, False)

    def test_a_line_feed_or_a_letter_of_other_tongues(self):
        for sign in ["\n", "\t", "\x00", "\u00e9", "\u00df", "\u03b1", "\u0661", "\u00b2", "\uff11", "\uff41"]:
            for name in [sign, "a" + sign, sign + "a", "a" + sign + "b"]:
                self.told(name, False)

    def test_asking_twice_tells_the_same(self):
        for name in ["a", "", "1a", "a" * 13]:
            self.assertIs(good(name), good(name))


if __name__ == "__main__":
    unittest.main()
