"""Claims wherever the free points are put: points 45 and 46."""

import random
import time
import unittest

import model
from bookcase import at, built, everything
from movebook.ever import ever
from movebook.tellings import anew
from wide import EACH, Asked, below, frees_of, some_flat_row, some_parts, sort_in, told_at, too_wide

# Free points stand at one place, so that nothing hangs on where they are.
FREE = ("free", (5, 1), (5, 1))
A, B, C, D, E = [(name, FREE) for name in "abcde"]
AB, BC, AC = ("ab", ("line", "a", "b")), ("bc", ("line", "b", "c")), ("ac", ("line", "a", "c"))
MAB, MBC, MAC = ("mab", ("middle", "a", "b")), ("mbc", ("middle", "b", "c")), ("mac", ("middle", "a", "c"))

ALWAYS = {
    "one place thrice": [A, ("k", ("inline", "a", "a", "a"))],
    "one free point": [A, ("m", ("middle", "a", "a")), ("t", ("turn", "m", "a")), ("k", ("alike", "a", "m", "t", "a"))],
    "round of one point": [A, ("k", ("round", "a", "a", "a", "a"))],
    "the middle is in line": [A, B, MAB, ("k", ("inline", "a", "mab", "b"))],
    "the middle is as far": [A, B, MAB, ("k", ("alike", "a", "mab", "mab", "b"))],
    "two alike are round": [A, B, ("t", ("turn", "a", "b")), ("k", ("round", "a", "b", "t", "b"))],
    "a line is beside itself": [A, B, AB, ("k", ("beside", "ab", "ab"))],
    "turned is square": [A, B, AB, ("t", ("turn", "a", "b")), ("l", ("line", "t", "b")), ("k", ("square", "l", "ab"))],
    "four turns are round": [A, B, ("t", ("turn", "a", "b")), ("u", ("turn", "b", "t")), ("k", ("round", "a", "b", "t", "u"))],
    "medians": [A, B, C, MAB, MBC, MAC, ("l", ("line", "a", "mbc")), ("m", ("line", "b", "mac")), ("g", ("meet", "l", "m")),
                ("k", ("inline", "c", "mab", "g"))],
    "altitudes": [A, B, C, AB, BC, AC, ("l", ("upright", "a", "bc")), ("m", ("upright", "b", "ac")), ("h", ("meet", "l", "m")),
                  ("n", ("line", "c", "h")), ("k", ("square", "n", "ab"))],
    "bisectors": [A, B, C, AB, BC, AC, MAB, MBC, MAC, ("l", ("upright", "mab", "ab")), ("m", ("upright", "mbc", "bc")),
                  ("o", ("meet", "l", "m")), ("n", ("line", "o", "mac")), ("k", ("square", "n", "ac"))],
    "feet are round": [A, B, C, BC, AC, ("p", ("foot", "a", "bc")), ("q", ("foot", "b", "ac")),
                       ("k", ("round", "a", "b", "p", "q"))],
    "the mirror is as far": [A, B, C, AB, ("p", ("mirror", "c", "ab")), ("k", ("alike", "a", "c", "a", "p"))],
    "the foot is the middle": [A, B, C, AB, ("p", ("mirror", "c", "ab")), ("f", ("foot", "c", "ab")), ("m", ("middle", "c", "p")),
                               ("k", ("inline", "f", "m", "a"))],
    "middles of four": [A, B, C, D, MAB, MBC, ("mcd", ("middle", "c", "d")), ("mda", ("middle", "d", "a")),
                        ("l", ("line", "mab", "mbc")), ("m", ("line", "mcd", "mda")), ("k", ("beside", "l", "m"))],
    "middles of middles": [A, B, C, D, MAB, ("mcd", ("middle", "c", "d")), ("p", ("middle", "mab", "mcd")), MAC,
                           ("mbd", ("middle", "b", "d")), ("q", ("middle", "mac", "mbd")), ("k", ("inline", "p", "q", "p"))],
    "along and along": [A, B, C, D, E, ("cd", ("line", "c", "d")), ("l", ("along", "b", "cd")), ("m", ("along", "a", "l")),
                        ("n", ("along", "e", "cd")), ("k", ("beside", "m", "n"))],
    "upright and upright": [A, B, C, D, E, ("cd", ("line", "c", "d")), ("l", ("upright", "b", "cd")),
                            ("m", ("upright", "a", "l")), ("n", ("upright", "e", "cd")), ("k", ("square", "m", "n"))],
}
BREAKS = {
    "three free points": [A, B, C, ("k", ("inline", "a", "b", "c"))],
    "four free points": [A, B, C, D, ("k", ("round", "a", "b", "c", "d"))],
    "two distances": [A, B, C, ("k", ("alike", "a", "b", "a", "c"))],
    "turned is not in line": [A, B, ("t", ("turn", "a", "b")), ("k", ("inline", "a", "b", "t"))],
    "the middle is not as far": [A, B, MAB, ("k", ("alike", "a", "b", "mab", "b"))],
    "a line is not square to itself": [A, B, AB, ("k", ("square", "ab", "ab"))],
    "a line is not beside its upright": [A, B, C, AB, ("u", ("upright", "c", "ab")), ("k", ("beside", "ab", "u"))],
    "almost a third": [A, B, MAB, ("s", ("share", "a", "b", (499, 998))), ("t", ("share", "a", "b", (499, 999))),
                       ("k", ("alike", "a", "mab", "t", "b"))],
    "five free points": [A, B, C, D, E, ("p", ("middle", "c", "d")), ("l", ("line", "a", "p")), ("m", ("line", "b", "e")),
                         ("k", ("square", "l", "m"))],
    "medians of another point": [A, B, C, MAB, MBC, ("l", ("line", "a", "mbc")), ("m", ("line", "c", "mab")),
                                 ("g", ("meet", "l", "m")), ("k", ("inline", "a", "b", "g"))],
}
NEVER = {
    "one free point": [A, ("l", ("line", "a", "a")), ("k", ("beside", "l", "l"))],
    "one point by two ways": [A, B, MAB, ("n", ("middle", "b", "a")), ("l", ("line", "mab", "n")), ("k", ("square", "l", "l"))],
    "lines side by side": [A, B, C, AB, ("l", ("along", "c", "ab")), ("p", ("meet", "ab", "l")), ("k", ("inline", "p", "a", "b"))],
    "a line with itself": [A, B, AB, ("p", ("meet", "ab", "ab")), ("k", ("alike", "p", "a", "p", "b"))],
    "medians' point twice": [A, B, C, MAB, MBC, ("l", ("line", "a", "mbc")), ("m", ("line", "c", "mab")), ("g", ("meet", "l", "m")),
                             ("s", ("share", "c", "mab", (2, 3))), ("n", ("line", "g", "s")), ("k", ("beside", "n", "n"))],
    "never on what never stands": [A, B, ("l", ("line", "a", "a")), ("p", ("foot", "b", "l")), ("m", ("line", "p", "a")),
                                   ("k", ("square", "m", "l"))],
}


class Checked(Asked):
    def check(self, row, name, word=None):
        """What is told is of its kind and is so at its places; the row stays as it was."""
        kept = list(row)
        told = ever(row, name)
        self.assertEqual(row, kept)
        self.assertIs(type(told), tuple)
        if word:
            self.assertEqual(told[0], word)
        self.assertIs(type(told[1]), list)
        if told[0] == "never":
            self.assertEqual(told, ("never", []))
        else:
            self.assertIn(told[0], ("always", "breaks"))
            self.check_places(row, name, *told)
        return told[0]

    def check_places(self, row, name, word, places):
        self.assertTrue(all(type(one) is tuple and len(one) == 2 for one in places))
        self.assertEqual([free for free, place in places], frees_of(row, name))
        there = [(other, ("free", *dict(places)[other]) if other in dict(places) else making)
                 for other, making in below(row, name)]
        # Places beyond the bounds would be refused here.
        self.assertEqual(anew(there)[-1], ("kept",) if word == "always" else ("broken",))

    def check_by_chance(self, row, name, word, chance, turns):
        """No place shows another word than was told."""
        names = frees_of(row, name)
        for turn in range(turns):
            numbers = some_parts(chance, 2 * len(names))
            told = told_at(row, name, {free: (numbers[2 * at], numbers[2 * at + 1]) for at, free in enumerate(names)})
            if word == "always":
                self.assertNotEqual(told[name], ("broken",))
            if word == "never":
                self.assertEqual(told[name][0], "gone")


class Ever(Checked):
    def test_claims_that_hold_always(self):
        for title, row in ALWAYS.items():
            with self.subTest(title):
                self.check(row, "k", "always")
                self.check_by_chance(row, "k", "always", random.Random(title), 40)

    def test_claims_that_break(self):
        for title, row in BREAKS.items():
            with self.subTest(title):
                self.check(row, "k", "breaks")

    def test_claims_that_never_stand(self):
        for title, row in NEVER.items():
            with self.subTest(title):
                self.check(row, "k", "never")
                self.check_by_chance(row, "k", "never", random.Random(title), 40)

    def test_each_word_of_a_claim(self):
        for name, making in EACH:
            if sort_in(EACH, name) == "claim" and not too_wide(EACH, name):
                word = self.check(EACH, name)
                self.check_by_chance(EACH, name, word, random.Random(name), 30)

    def test_by_chance(self):
        words = []
        for frees, most in ((1, 24), (2, 24), (3, 24), (4, 12), (5, 8)):
            for seed in range(40):
                row = some_flat_row(seed, frees, frees + 14, most)
                for name, making in row:
                    if sort_in(row, name) == "claim" and not too_wide(row, name):
                        words.append(self.check(row, name))
                        self.check_by_chance(row, name, words[-1], random.Random(seed), 6)
        for word in ("always", "breaks", "never"):
            self.assertGreater(words.count(word), 20)

    def test_broken_at_few_places(self):
        # Kept wherever c lies above a or on the line of a and b, so the first places that come to mind do not show it.
        row = [A, B, C, AB, ("f", ("foot", "c", "ab")), ("l", ("line", "a", "c")), ("g", ("foot", "b", "l")),
               ("k", ("inline", "f", "g", "a"))]
        self.check(row, "k", "breaks")

    def test_the_free_points_stand_in_the_rows_order(self):
        row = [("z", FREE), ("y", FREE), ("x", FREE), ("w", FREE), ("k", ("round", "w", "x", "z", "y"))]
        self.assertEqual([name for name, place in ever(row, "k")[1]], ["z", "y", "x", "w"])
        row = [("z", FREE), ("y", FREE), ("x", FREE), ("w", FREE), ("k", ("inline", "w", "x", "y"))]
        self.assertEqual([name for name, place in ever(row, "k")[1]], ["y", "x", "w"])

    def test_a_new_list_each_time(self):
        row = ALWAYS["medians"]
        told = ever(row, "k")
        kept = list(told[1])
        told[1].clear()
        self.assertEqual(ever(row, "k"), ("always", kept))
        for turn in range(2):
            never = ever(NEVER["one free point"], "k")
            self.assertEqual(never, ("never", []))
            never[1].append("more")


class OfBooks(Asked):
    def test_locks_and_present_places_change_nothing(self):
        for rows in (ALWAYS, BREAKS, NEVER):
            for title, row in rows.items():
                book = built(*row)
                word = ever(row, "k")[0]
                before = everything(book)
                told = book.ever("k")
                self.assertEqual(told[0], word)
                told[1].append("more")
                self.assertEqual(everything(book), before)
                for step, name in enumerate(frees_of(row, "k")):
                    book.move(name, at(step, 3 * step * step - 1))
                    self.assertEqual(book.ever("k")[0], word)
                for name in book.row():
                    book.lock(name)
                self.assertEqual(book.ever("k")[0], word)

    def test_refused_as_point_43_tells(self):
        book = built(A, B, C, ("k", ("inline", "a", "b", "c")), AB, ("r", ("circle", "a", "b")), ("x", ("cut", "ab", "r", 1)),
                     ("i", ("inline", "a", "b", "x")))
        for name, word, told in [("no", "NoThing", "no"), ("a", "WrongSort", "a"), ("ab", "WrongSort", "ab"),
                                 ("r", "WrongSort", "r"), ("x", "WrongSort", "x"), ("i", "Rooted", "x")]:
            before = everything(book)
            self.refused(word, told, lambda row, each: book.ever(each), [], name)
            self.assertEqual(everything(book), before)

    def test_what_breaks_can_be_moved_there(self):
        for title, row in BREAKS.items():
            book = built(*row)
            for name, place in book.ever("k")[1]:
                book.move(name, place)
            self.assertEqual(book.telling("k"), ("broken",))


# The weight, and a row whose last thing has it: three free points and 24, four and 12, five and 8.
TURNS = [("p", ("turn", "c", "d")), ("q", ("turn", "d", "p")), ("r", ("turn", "d", "c"))]
WIDEST = [
    (24, ALWAYS["feet are round"]),
    (24, [A, B, C, AC, ("p", ("mirror", "b", "ac")), ("q", ("turn", "c", "p")), ("l", ("line", "p", "q")),
          ("m", ("upright", "q", "l")), ("bq", ("line", "q", "b")), ("k", ("beside", "m", "bq"))]),
    (24, [A, B, C, ("p", ("turn", "b", "c")), ("q", ("turn", "p", "c")), ("l", ("line", "a", "q")), ("r", ("mirror", "c", "l")),
          ("s", ("mirror", "p", "l")), ("t", ("turn", "q", "p")), ("k", ("inline", "r", "s", "t"))]),
    (12, [A, B, C, D, *TURNS, ("k", ("round", "a", "b", "p", "r"))]),
    (12, [A, B, C, D, *TURNS, ("k", ("alike", "a", "p", "b", "r"))]),
    (12, [A, B, C, D, *TURNS, ("l", ("line", "p", "q")), ("o", ("turn", "q", "a")), ("n", ("line", "o", "b")),
          ("u", ("upright", "c", "n")), ("v", ("along", "d", "l")), ("k", ("square", "u", "v"))]),
    (12, [A, B, C, D, *TURNS, ("ap", ("line", "a", "p")), ("br", ("line", "b", "r")), ("x", ("meet", "ap", "br")),
          ("s", ("turn", "c", "p")), ("k", ("inline", "x", "s", "q"))]),
    (8, [A, B, C, D, E, *TURNS, ("s", ("turn", "a", "b")), ("t", ("turn", "e", "c")), ("u", ("turn", "d", "e")),
         ("l", ("line", "p", "u")), ("n", ("line", "t", "s")), ("k", ("square", "l", "n"))]),
    (8, [A, B, C, D, E, *TURNS, ("o", ("turn", "p", "e")), ("s", ("turn", "a", "b")), ("t", ("turn", "s", "c")),
         ("m", ("middle", "d", "e")), ("k", ("inline", "o", "t", "m"))]),
    (8, [A, B, C, D, E, ("s", ("turn", "a", "b")), ("l", ("line", "c", "d")), ("m", ("line", "e", "s")), ("x", ("meet", "l", "m")),
         ("n", ("middle", "c", "e")), ("k", ("inline", "x", "n", "a"))]),
]


class InGoodTime(Checked):
    def test_the_widest_claims(self):
        for weight, row in WIDEST:
            self.assertEqual(model.weights(row)[-1], weight)
            self.assertFalse(too_wide(row, "k"))
            start = time.process_time()
            self.check(row, "k")
            self.assertLess(time.process_time() - start, 3)

    def test_with_shares_of_many_figures(self):
        for weight, row in WIDEST:
            shared = [(name, ("share", *making[1:], (at - 997, 999 - at)) if making[0] == "turn" else making)
                      for at, (name, making) in enumerate(row)]
            start = time.process_time()
            self.check(shared, "k")
            self.assertLess(time.process_time() - start, 3)


if __name__ == "__main__":
    unittest.main()
