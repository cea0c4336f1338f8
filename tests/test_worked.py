"""Things worked into forms: points 43 and 44, held against what the things tell at many places."""

import random
import time
import unittest
from fractions import Fraction

import model
from geometry import number, pair
from movebook.ever import ever
from movebook.forms import worth
from movebook.worked import claimed, free_points, hinges, worked
from wide import EACH, Asked, below, frees_of, set_down, some_flat_row, some_parts, sort_in, told_at, too_wide

FREE = ("free", (0, 1), (0, 1))


class Worths(Asked):
    """Worths of forms against tellings."""

    def assert_form(self, form, many):
        self.assertIs(type(form), tuple)
        rising = [powers for powers, one in form]
        self.assertEqual(rising, sorted(set(rising)))
        for powers, one in form:
            self.assertEqual((type(powers), type(one), len(powers)), (tuple, int, many))
            self.assertNotEqual(one, 0)

    def check_all(self, row, name, chance, places):
        """Each form of the thing, at so many places of its free points."""
        many = 2 * max(0, len(frees_of(row, name)) - 2)
        sort = sort_in(row, name)
        told_hinges = hinges(row, name)
        self.check_hinge_list(row, name, told_hinges, many)
        forms = (claimed(row, name),) if sort == "claim" else worked(row, name)
        self.assertEqual((type(forms), len(forms)), (tuple, 1 if sort == "claim" else 3))
        for form in forms:
            self.assert_form(form, many)
        self.assertEqual(free_points(row, name), frees_of(row, name))
        for turn in range(places):
            numbers = some_parts(chance, many)
            self.check_there(row, name, forms, told_hinges, numbers)

    def check_hinge_list(self, row, name, told, many):
        self.assertIs(type(told), list)
        self.assertTrue(all(type(one) is tuple for one in told))
        self.assertEqual([other for other, form in told],
                         [other for other, making in below(row, name) if making[0] in ("line", "meet")])
        for other, form in told:
            self.assert_form(form, many)

    def check_there(self, row, name, forms, told_hinges, numbers):
        told = told_at(row, name, set_down(frees_of(row, name), numbers))
        there = [pair(one) for one in numbers]
        worths = [number(worth(form, there)) for form in forms]
        standing = told[name][0] != "gone"
        hinge_worths = {other: number(worth(form, there)) for other, form in told_hinges}
        for other, making in row:
            if other in hinge_worths and all(told[ground][0] != "gone" for ground in model.names_in(making)):
                self.assertEqual(hinge_worths[other] == 0, told[other][0] == "gone", (name, other))
        self.assertEqual(standing, all(hinge_worths.values()), name)
        if not standing:
            return
        if told[name][0] == "at":
            x, y, w = worths
            self.assertNotEqual(w, 0)
            self.assertEqual(("at", pair(x / w), pair(y / w)), told[name])
        elif told[name][0] == "line":
            a, b, c = worths
            d, e, f = told[name][1:]
            factor = a / d if d else b / e
            self.assertNotEqual(factor, 0)
            self.assertEqual((a, b, c), (d * factor, e * factor, f * factor))
        else:
            self.assertEqual(worths[0] == 0, told[name] == ("kept",), name)

    def test_each_making(self):
        chance = random.Random(1)
        words = set()
        for name, making in EACH:
            if not too_wide(EACH, name):
                words.add(making[0])
                self.check_all(EACH, name, chance, 60)
        self.assertEqual(words, set(model.MADE) - {"circle", "cut"})

    def test_the_places_of_point_44(self):
        names = ["p1", "p2", "p3", "p4", "p5"]
        row = [(name, ("free", (7, 1), (9, 1))) for name in names]
        row += [("m", ("middle", "p2", "p3")), ("n", ("middle", "p4", "p4")), ("x", ("line", "p1", "m")),
                ("y", ("line", "p5", "n")), ("all", ("beside", "x", "y"))]
        self.assertEqual(free_points(row, "all"), names)
        # Alone, each free point is the first; with others it takes its number among them.
        for name in names:
            self.assertEqual([worth(form, []) for form in worked(row, name)][:2], [(0, 1), (0, 1)])
        for turn in range(20):
            self.check_all(row, "all", random.Random(turn), 10)
        row.append(("far", ("share", "p4", "p2", (0, 1))))
        x, y, w = [number(worth(form, [])) for form in worked(row, "far")]
        self.assertEqual((x / w, y / w), (1, 0))

    def test_free_points_of_one_two_three_four_and_five(self):
        for frees, most in ((1, 24), (2, 24), (3, 24), (4, 12), (5, 8)):
            for seed in range(14):
                row = some_flat_row(seed, frees, frees + 11, most)
                chance = random.Random(seed)
                for name, making in row:
                    if not too_wide(row, name):
                        self.check_all(row, name, chance, 12)

    def test_a_thing_that_fails_everywhere(self):
        row = [("a", FREE), ("b", FREE), ("c", FREE), ("l", ("line", "a", "b")), ("n", ("line", "c", "c")),
               ("m", ("along", "c", "l")), ("p", ("meet", "l", "m")), ("q", ("meet", "n", "l")), ("o", ("foot", "p", "n")),
               ("r", ("line", "o", "q")), ("s", ("square", "r", "n")), ("h", ("middle", "q", "q")),
               ("k", ("inline", "p", "q", "h"))]
        chance = random.Random(3)
        for name, making in row:
            if not too_wide(row, name):
                self.check_all(row, name, chance, 25)
        self.assertEqual([other for other, form in hinges(row, "s")], ["l", "n", "p", "q", "r"])
        self.assertEqual(dict(hinges(row, "s"))["n"], ())
        self.assertEqual(dict(hinges(row, "p"))["p"], ())

    def test_hinges_stand_in_the_rows_order_once_each(self):
        row = [("a", FREE), ("b", FREE), ("c", FREE), ("bc", ("line", "b", "c")), ("ab", ("line", "a", "b")),
               ("z", ("line", "a", "a")), ("o", ("meet", "ab", "bc")), ("k", ("inline", "o", "o", "b"))]
        self.assertEqual([name for name, form in hinges(row, "k")], ["bc", "ab", "o"])
        self.assertEqual(hinges(row, "a"), [])
        self.assertEqual([name for name, form in hinges(row, "ab")], ["ab"])

    def test_the_widest_in_good_time(self):
        start = time.process_time()
        for row in (WIDE_THREE, WIDE_FOUR, WIDE_FIVE):
            for name, making in row:
                if not too_wide(row, name):
                    self.check_all(row, name, random.Random(4), 2)
        self.assertLess(time.process_time() - start, 30)

    def test_told_lists_are_new(self):
        told = hinges(EACH, "met2")
        kept = list(told)
        told.clear()
        self.assertEqual(hinges(EACH, "met2"), kept)
        names = free_points(EACH, "met2")
        names.append("x")
        self.assertEqual(free_points(EACH, "met2"), ["a", "b", "c"])


# Rows whose things weigh as much as may be asked, most of it by the last free points, with feet, mirrors and meets.
WIDE_THREE = [
    ("a", FREE), ("b", FREE), ("c", FREE), ("bc", ("line", "b", "c")), ("l", ("line", "a", "c")),
    ("p", ("mirror", "c", "bc")), ("q", ("turn", "p", "c")), ("m", ("line", "p", "q")), ("n", ("upright", "q", "l")),
    ("x", ("meet", "m", "bc")), ("s", ("turn", "c", "p")), ("far", ("line", "x", "s")), ("t", ("turn", "q", "c")),
    ("u", ("foot", "t", "l")), ("v", ("line", "u", "q")), ("w", ("inline", "u", "t", "s")), ("w2", ("square", "v", "bc")),
    ("w3", ("beside", "v", "l")), ("fa", ("foot", "a", "bc")), ("fb", ("foot", "b", "l")),
    ("w4", ("round", "a", "b", "fa", "fb")),
]
WIDE_FOUR = [
    ("a", FREE), ("b", FREE), ("c", FREE), ("d", FREE), ("cd", ("line", "c", "d")), ("ad", ("line", "a", "d")),
    ("p", ("mirror", "c", "ad")), ("q", ("turn", "d", "c")), ("r", ("turn", "q", "p")), ("bq", ("line", "b", "q")),
    ("pd", ("line", "p", "d")), ("x", ("meet", "bq", "pd")), ("y", ("line", "r", "b")), ("k", ("inline", "x", "a", "q")),
    ("s", ("square", "y", "cd")), ("q2", ("turn", "q", "b")), ("z", ("line", "r", "q2")), ("rn", ("round", "a", "b", "c", "d")),
]
WIDE_FIVE = [
    ("a", FREE), ("b", FREE), ("c", FREE), ("d", FREE), ("e", FREE), ("p", ("turn", "c", "d")), ("q", ("turn", "d", "e")),
    ("r", ("turn", "e", "c")), ("l", ("line", "p", "q")), ("m", ("line", "r", "a")), ("m2", ("line", "b", "r")),
    ("n", ("meet", "l", "m2")), ("u", ("upright", "a", "l")), ("k", ("beside", "l", "m")), ("k2", ("square", "u", "m2")),
    ("o", ("turn", "p", "q")), ("w", ("turn", "r", "b")), ("v", ("line", "o", "w")), ("k3", ("inline", "o", "a", "b")),
]


class Refusals(Asked):
    ROW = [("a", FREE), ("b", FREE), ("c", FREE), ("d", FREE), ("e", FREE), ("f", FREE), ("l", ("line", "a", "b")),
           ("k", ("circle", "a", "b")), ("x1", ("cut", "l", "k", 1)), ("x2", ("cut", "k", "k", 2)),
           ("m", ("middle", "x2", "a")), ("n", ("line", "x1", "a")), ("y", ("middle", "x2", "x1")),
           ("claim", ("inline", "a", "b", "c")), ("cut", ("inline", "y", "b", "c")), ("ring", ("circle", "x2", "a"))]
    BY_SORT = {worked: ("point", "line"), hinges: ("point", "line", "claim"), claimed: ("claim",), ever: ("claim",)}

    def test_no_thing(self):
        for ask in (free_points, worked, hinges, claimed, ever):
            for name in ("no", "", "A", "free"):
                self.refused("NoThing", name, ask, self.ROW, name)
                self.refused("NoThing", name, ask, [], name)

    def test_wrong_sort(self):
        for ask, sorts in self.BY_SORT.items():
            for name, making in self.ROW:
                if model.MADE[making[0]][0] not in sorts:
                    self.refused("WrongSort", name, ask, self.ROW, name)

    def test_rooted_with_the_first_cut_in_the_row(self):
        for name, first in [("x1", "x1"), ("x2", "x2"), ("m", "x2"), ("n", "x1"), ("y", "x1")]:
            for ask in (worked, hinges):
                self.refused("Rooted", first, ask, self.ROW, name)
        for ask in (hinges, claimed, ever):
            self.refused("Rooted", "x1", ask, self.ROW, "cut")

    def test_wrong_sort_ahead_of_rooted_and_too_wide(self):
        for name in ("x1", "m", "n", "ring"):
            for ask in (claimed, ever):
                self.refused("WrongSort", name, ask, self.ROW, name)
        self.refused("WrongSort", "cut", worked, self.ROW, "cut")
        self.refused("WrongSort", "ring", hinges, self.ROW, "ring")
        wide = self.ROW + [("h", ("middle", "a", "b")), ("i", ("middle", "h", "c")), ("j", ("middle", "d", "e")),
                           ("w", ("line", "i", "j")), ("w2", ("round", "h", "i", "j", "f")), ("w3", ("circle", "i", "j"))]
        for ask in (claimed, ever):
            self.refused("WrongSort", "w", ask, wide, "w")
        self.refused("WrongSort", "w2", worked, wide, "w2")
        for ask in (worked, hinges, claimed, ever):
            self.refused("WrongSort", "w3", ask, wide, "w3")

    def test_rooted_ahead_of_too_wide(self):
        row = self.ROW + [("h", ("middle", "c", "d")), ("i", ("middle", "e", "f")), ("j", ("middle", "h", "i")),
                          ("z", ("middle", "j", "x2")), ("zz", ("inline", "z", "z", "j"))]
        for ask in (worked, hinges):
            self.refused("Rooted", "x2", ask, row, "z")
        for ask in (hinges, claimed, ever):
            self.refused("Rooted", "x2", ask, row, "zz")

    def test_free_points_of_all_things(self):
        self.assertEqual(free_points(self.ROW, "cut"), ["a", "b", "c"])
        self.assertEqual(free_points(self.ROW, "ring"), ["a", "b"])
        self.assertEqual(free_points(self.ROW, "x1"), ["a", "b"])
        self.assertEqual(free_points(self.ROW, "f"), ["f"])
        row = [("z", FREE), ("y", FREE), ("x", FREE), ("n", ("middle", "x", "z")), ("o", ("next", "n", "y"))]
        self.assertEqual((free_points(row, "n"), free_points(row, "o")), (["z", "x"], ["z", "y", "x"]))

    def test_too_wide_at_its_edges(self):
        for frees, weight in [(1, 24), (2, 24), (3, 24), (4, 12), (5, 8)]:
            for sort in ("point", "line", "claim"):
                row = edge_row(frees, weight, sort)
                for ask, sorts in self.BY_SORT.items():
                    if sort in sorts:
                        ask(row, "last")
                row = edge_row(frees, weight + 1, sort)
                for ask, sorts in self.BY_SORT.items():
                    if sort in sorts:
                        self.refused("TooWide", "last", ask, row, "last")

    def test_six_free_points_are_too_wide(self):
        for sort in ("point", "line", "claim"):
            for weight in (6, 7, 8, 20):
                row = edge_row(6, weight, sort)
                for ask, sorts in self.BY_SORT.items():
                    if sort in sorts:
                        self.refused("TooWide", "last", ask, row, "last")

    def test_what_stands_in_the_row_besides_does_not_count(self):
        row = self.ROW + edge_row(3, 24, "claim")
        row = [one for at, one in enumerate(row) if one[0] not in [other for other, making in row[:at]]]
        self.assertEqual(ever(row, "last"), ever(edge_row(3, 24, "claim"), "last"))


def edge_row(frees, weight, sort):
    """A row whose last thing has so many free points, that weight and that sort."""
    names = ["a", "b", "c", "d", "e", "f"][:frees]
    row = [(name, ("free", (at, 1), (at * at, 1))) for at, name in enumerate(names)]
    on = [names[at % frees] for at in range(weight)]
    last = {"point": ("next", *on[-1:]), "line": ("line", *on[-1:]), "claim": ("inline", *on[-2:])}[sort]
    heavy = on[0]
    for at, name in enumerate(on[1:1 - len(last)]):
        row.append((f"h{at}", ("share", heavy, name, (1, 3))))
        heavy = f"h{at}"
    row.append(("last", (*last, heavy)))
    assert model.weights(row)[-1] == weight and len(frees_of(row, "last")) == frees
    return row


if __name__ == "__main__":
    unittest.main()
