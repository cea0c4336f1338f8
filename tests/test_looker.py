"""The looker: point 47."""

import random
import unittest
from math import gcd

import model
from bookcase import built, free
from bookmodel import check_grounds, far, good, Refused
from limits import Limited
from movebook.books import Book
from movebook.looker import looks

FREE = free(0, 0)
AT = ("at", (0, 1), (0, 1))


def is_fraction(part):
    return isinstance(part, tuple) and part[1] > 0 and gcd(*part) == 1


def is_making(making):
    if making[0] not in model.MADE:
        return False
    many = len(model.MADE[making[0]][1])
    on, rest = making[1:1 + many], making[1 + many:]
    if len(on) != many or not all(isinstance(name, str) for name in on):
        return False
    if making[0] == "cut":
        return len(rest) == 1 and rest[0] in (1, 2) and isinstance(rest[0], int)
    return len(rest) == {"free": 2, "share": 1}.get(making[0], 0) and all(is_fraction(part) for part in rest)


def model_looks(sheet):
    """What the looker is to say, by the document's words."""
    row = []
    for name, making, telling in sheet:
        if not is_making(making) or not good(name) or name in dict(row):
            return False
        try:
            check_grounds(row, making)
        except Refused:
            return False
        row.append((name, making))
        if far(making) or model.weights(row)[-1] > 40:
            return False
    return model.tellings(row) == [telling for name, making, telling in sheet]


def sheet_of(*rows):
    return built(*rows).sheet()


ROW = [("a", FREE), ("b", free(3, 4)), ("c", ("free", (1, 2), (-3, 7))), ("m", ("middle", "a", "b")),
       ("s", ("share", "a", "c", (-2, 3))), ("l", ("line", "a", "b")), ("k", ("circle", "a", "b")), ("x", ("cut", "l", "k", 2)),
       ("n", ("line", "a", "a")), ("u", ("upright", "c", "n")), ("claim", ("inline", "a", "m", "b")),
       ("r", ("round", "a", "b", "c", "m")), ("f", ("foot", "c", "l")), ("q", ("beside", "l", "u"))]
OTHERS = ["a", "l", "k", "claim", "", "A", "zz", "at", "gone", "free", 0, 1, 2, 3, -1, 7, 10 ** 60 - 1, (0, 1), (1, 1), (2, 4),
          (1, 0), (0, 0), (1, -1), (0, 2), (10 ** 9, 1), (1, 10 ** 9), (1000, 1), (3, 7), (-3, 7)]


class Looks(Limited):
    def said(self, sheet, due):
        kept = list(sheet)
        told = looks(sheet)
        self.assertIs(told, due, sheet)
        self.assertEqual(sheet, kept)

    def changed(self, sheet, at, part, new):
        """The sheet with another part of its entry at that place."""
        entry = list(sheet[at])
        entry[part] = new
        return sheet[:at] + [tuple(entry)] + sheet[at + 1:]

    def test_an_empty_sheet(self):
        self.said([], True)
        self.said(Book().sheet(), True)

    def test_every_sheet_that_a_book_tells_and_each_beginning_of_one(self):
        for sheet in [sheet_of(*ROW)] + [sheet_of(*model.some_row(seed, 20, far, parts))
                                         for seed in range(10) for far, parts in ((4, 5), (10 ** 9, 999))]:
            for many in range(len(sheet) + 1):
                self.said(sheet[:many], True)

    def test_a_sheet_of_sixty(self):
        sheet = sheet_of(*model.some_row(77, 60))
        self.said(sheet, True)
        self.said(self.changed(sheet, 59, 2, ("kept",) if sheet[59][2] != ("kept",) else ("broken",)), False)

    def test_another_telling(self):
        sheet = sheet_of(*ROW)
        tellings = {telling for name, making, telling in sheet} | {
            ("at", (0, 1), (1, 1)), ("at", (0, 1)), ("at", (0, 1), (0, 1), (0, 1)), ("at", 0, 0), ("at", "0", "0"),
            ("at", (0, 2), (0, 1)), ("at", (0, -1), (0, 1)), ("at", (0, 0), (0, 1)), ("at",), ("kept", "a"), ("kept", 1),
            ("broken", (0, 1)), ("line", 4, -3), ("line", -4, 3, 0), ("line", 8, -6, 0), ("line", (4, 1), (-3, 1), (0, 1)),
            ("line", "4", "-3", "0"), ("circle", (0, 1), (0, 1), (25, 1), 0), ("circle", (0, 1), (0, 1), 25),
            ("circle", (0, 1), (0, 1), (5, 1)), ("gone", "n", "parallel"), ("gone", "u", "same"), ("gone", "n"), ("gone",),
            ("gone", "n", "same", "same"), ("gone", 1, "same"), ("gone", (0, 1), "same"), ("",), ("KEPT",), ("point", (0, 1), (0, 1))}
        for at, (name, making, telling) in enumerate(sheet):
            for other in tellings - {telling}:
                self.said(self.changed(sheet, at, 2, other), False)
            self.said(self.changed(sheet, at, 2, telling), True)

    def test_fractions_that_are_not_in_lowest_terms(self):
        for part in [(0, 2), (2, 2), (2, 4), (1, 0), (0, 0), (1, -1), (-1, -2), (0, -1), (3, -1)]:
            self.said([("a", ("free", part, (0, 1)), AT)], False)
            self.said([("a", ("free", (0, 1), part), AT)], False)
            self.said([("a", ("free", part, (0, 1)), ("at", part, (0, 1)))], False)
            sheet = [("a", FREE, AT), ("s", ("share", "a", "a", part), AT)]
            self.said(sheet, False)

    def test_makings_that_are_none(self):
        good_sheet = sheet_of(*ROW)
        for making in [("free",), ("free", (0, 1)), ("free", (0, 1), (0, 1), (0, 1)), ("free", 0, 0), ("free", "0", "0"),
                       ("free", (0, 1), 0), ("free", "a", (0, 1)), ("Free", (0, 1), (0, 1)), ("", (0, 1), (0, 1)), ("at", (0, 1), (0, 1)),
                       ("point", "a", "b"), ("middle", "a"), ("middle",), ("middle", "a", "b", "c"), ("middle", "a", 1),
                       ("middle", (0, 1), "a"), ("middle", 0, 0), ("share", "a", "b"), ("share", "a", "b", 1), ("share", "a", "b", "c"),
                       ("share", "a", "b", (1, 2), (1, 2)), ("share", "a", (1, 2), "b"), ("cut", "l", "k"), ("cut", "l", "k", 0),
                       ("cut", "l", "k", 3), ("cut", "l", "k", -1), ("cut", "l", "k", "1"), ("cut", "l", "k", (1, 1)),
                       ("cut", "l", "k", 1, 1), ("cut", 1, "l", "k"), ("inline", "a", "b"), ("round", "a", "b", "c"), ("kept",), ("cut",)]:
            for telling in [("at", (0, 1), (0, 1)), ("at", (3, 1), (4, 1)), ("kept",), ("gone", "z", "same")]:
                self.said(good_sheet + [("z", making, telling)], False)

    def test_cuts_of_both_numbers(self):
        sheet = sheet_of(*ROW[:7])
        self.said(sheet + [("x", ("cut", "l", "k", 1), ("at", (-3, 1), (-4, 1)))], True)
        self.said(sheet + [("x", ("cut", "l", "k", 2), ("at", (3, 1), (4, 1)))], True)
        self.said(sheet + [("x", ("cut", "l", "k", 2), ("at", (-3, 1), (-4, 1)))], False)

    def test_bounds(self):
        for part, due in [((10 ** 9 - 1, 1), True), ((10 ** 9, 1), False), ((1 - 10 ** 9, 1), True), ((-10 ** 9, 1), False),
                          ((1, 10 ** 9 - 1), True), ((1, 10 ** 9), False), ((10 ** 60 - 1, 1), False)]:
            self.said([("a", ("free", part, (0, 1)), ("at", part, (0, 1)))], due)
            self.said([("a", ("free", (0, 1), part), ("at", (0, 1), part))], due)
        for part, due in [((999, 1), True), ((1000, 1), False), ((-999, 1), True), ((-1000, 1), False), ((1, 999), True),
                          ((1, 1000), False)]:
            self.said([("a", FREE, AT), ("s", ("share", "a", "a", part), AT)], due)

    def test_names(self):
        for name in ["", "A", "1", "a b", "a" * 13, "-", "a_", "a\n"]:
            self.said([(name, FREE, AT)], False)
        for name in ["z", "a" * 12, "free", "gone", "a1"]:
            self.said([(name, FREE, AT)], True)
        self.said([("a", FREE, AT), ("a", FREE, AT)], False)
        self.said([("a", FREE, AT), ("b", FREE, AT), ("a", ("middle", "a", "b"), AT)], False)

    def test_grounds(self):
        sheet = sheet_of(("a", FREE), ("b", free(1, 0)), ("l", ("line", "a", "b")), ("k", ("circle", "a", "b")),
                         ("q", ("inline", "a", "a", "b")))
        for name in ["no", "", "A", "z", "later", "l", "k", "q"]:
            later = [("later", FREE, AT)]
            for telling in (AT, ("gone", name, "same"), ("gone", "z", "same")):
                self.said(sheet + [("z", ("middle", "a", name), telling)] + later, False)
                self.said(sheet + [("z", ("middle", name, "a"), telling)] + later, False)
        self.said(sheet + [("z", ("middle", "a", "a"), AT)], True)
        self.said(sheet + [("z", ("cut", "a", "k", 1), AT)], False)
        self.said(sheet[2:3] + sheet[:2], False)

    def test_weights_at_forty_and_forty_one(self):
        rows = [("a", FREE)]
        for at, weight in enumerate((2, 4, 8, 16, 32)):
            last = rows[-1][0]
            rows.append((f"h{weight}", ("middle", last, last)))
        sheet = sheet_of(*rows)
        self.said(sheet + [("z", ("middle", "h32", "h8"), AT)], True)
        self.said(sheet + [("z", ("inline", "h32", "h8", "a"), ("kept",))], False)
        self.said(sheet + [("z", ("middle", "h32", "h8"), AT), ("y", ("middle", "z", "a"), AT)], False)

    def test_gone_with_another_name_or_word(self):
        sheet = sheet_of(("a", FREE), ("l", ("line", "a", "a")), ("m", ("line", "a", "a")), ("p", ("meet", "l", "m")))
        self.assertEqual(sheet[3][2], ("gone", "l", "same"))
        for telling in [("gone", "m", "same"), ("gone", "p", "parallel"), ("gone", "l", "parallel"), ("gone", "p", "same"),
                        ("gone", "a", "same"), ("gone", "zz", "same"), ("gone", "l", ""), ("gone", "l", "Same")]:
            self.said(self.changed(sheet, 3, 2, telling), False)

    def test_one_part_changed_in_any_way(self):
        sheet = sheet_of(*ROW)
        for at, entry in enumerate(sheet):
            for which in (1, 2):
                for part in range(len(entry[which])):
                    for other in OTHERS:
                        if part == 0 and not isinstance(other, str):
                            continue
                        new = entry[which][:part] + (other,) + entry[which][part + 1:]
                        mutant = self.changed(sheet, at, which, new)
                        self.said(mutant, mutant == sheet or model_looks(mutant))
                for new in (entry[which] + ("a",), entry[which] + (1,), entry[which] + ((0, 1),), entry[which][:-1] or ("x",)):
                    self.said(self.changed(sheet, at, which, new), False)

    def test_by_chance_against_the_words(self):
        chance = random.Random(11)
        ends = {True: 0, False: 0}
        for turn in range(1500):
            sheet = sheet_of(*model.some_row(turn % 40, 8))
            for change in range(chance.randrange(3)):
                at = chance.randrange(len(sheet))
                kind = chance.random()
                if kind < 0.3:
                    other = chance.randrange(len(sheet))
                    sheet[at], sheet[other] = sheet[other], sheet[at]
                elif kind < 0.4:
                    del sheet[at]
                    if not sheet:
                        break
                else:
                    which = chance.choice((1, 2))
                    entry = sheet[at][which]
                    part = chance.randrange(1, len(entry)) if len(entry) > 1 else 0
                    names = [name for name, making, telling in sheet]
                    new = chance.choice(names if part == 0 or isinstance(entry[part], str) else OTHERS)
                    sheet = self.changed(sheet, at, which, entry[:part] + (new,) + entry[part + 1:])
            due = model_looks(sheet)
            ends[due] += 1
            self.said(sheet, due)
        self.assertGreater(min(ends.values()), 200)


if __name__ == "__main__":
    unittest.main()
