"""Rows: points 16 and 17, and point 2 for the lists that are handed in and told."""

import unittest

import model
from limits import Limited
from movebook.errors import BookError, NoThing
from movebook.rows import above, beneath, weights

FREE = ("free", (0, 1), (0, 1))


def placed(*names):
    """Free points at unlike places."""
    return [(name, ("free", (at, 1), (at * at, 1))) for at, name in enumerate(names)]


# Points of the weights 1, 2, 3, 5 and 7; lines of 3 and 5; circles of 3 and 5.
BASE = placed("a", "b") + [
    ("two", ("middle", "a", "b")), ("three", ("middle", "a", "two")), ("five", ("middle", "two", "three")),
    ("seven", ("next", "five", "two")), ("l3", ("line", "a", "two")), ("l5", ("line", "two", "three")),
    ("k3", ("circle", "a", "two")), ("k5", ("circle", "two", "three"))]


class Weights(Limited):
    def weighed(self, making, weight):
        row = BASE + [("new", making)]
        self.assertEqual(weights(row)[-1], weight, making)
        self.assertEqual(weights(row), model.weights(row))

    def test_in_the_rows_order(self):
        self.assertEqual(weights(BASE), [1, 1, 2, 3, 5, 7, 3, 5, 3, 5])
        self.assertIs(type(weights(BASE)), list)
        self.assertEqual(weights([]), [])
        self.assertEqual(weights(placed("a")), [1])

    def test_free_points_weigh_one(self):
        self.weighed(("free", (10 ** 9 - 1, 1), (1, 10 ** 9 - 1)), 1)

    def test_the_sum_over_the_grounds(self):
        for word in ("middle", "next", "turn", "line", "circle"):
            self.weighed((word, "three", "five"), 8)
            self.weighed((word, "seven", "a"), 8)
        self.weighed(("share", "three", "five", (1, 3)), 8)
        self.weighed(("share", "three", "seven", (999, 1)), 10)
        self.weighed(("meet", "l3", "l5"), 8)
        self.weighed(("along", "seven", "l3"), 10)
        self.weighed(("upright", "seven", "l5"), 12)
        self.weighed(("inline", "three", "five", "seven"), 15)
        self.weighed(("beside", "l3", "l5"), 8)
        self.weighed(("square", "l5", "l3"), 8)

    def test_foot_and_mirror(self):
        for word in ("foot", "mirror"):
            self.weighed((word, "seven", "l3"), 13)
            self.weighed((word, "a", "l5"), 11)
            self.weighed((word, "seven", "l5"), 17)

    def test_cut_of_a_line(self):
        for number in (1, 2):
            self.weighed(("cut", "l3", "k5", number), 11)
            self.weighed(("cut", "l5", "k3", number), 13)

    def test_cut_of_a_circle(self):
        for number in (1, 2):
            self.weighed(("cut", "k3", "k5", number), 40)
            self.weighed(("cut", "k5", "k3", number), 40)
            self.weighed(("cut", "k3", "k3", number), 30)

    def test_round_and_alike(self):
        for word in ("round", "alike"):
            self.weighed((word, "a", "two", "three", "five"), 22)
            self.weighed((word, "three", "five", "seven", "five"), 40)

    def test_each_ground_as_often_as_it_is_named(self):
        for word in ("middle", "next", "turn", "line", "circle"):
            self.weighed((word, "five", "five"), 10)
        self.weighed(("inline", "five", "five", "five"), 15)
        self.weighed(("inline", "five", "a", "five"), 11)
        self.weighed(("round", "five", "five", "five", "five"), 40)
        self.weighed(("alike", "a", "seven", "a", "a"), 20)
        self.weighed(("meet", "l5", "l5"), 10)
        self.weighed(("square", "l3", "l3"), 6)

    def test_beyond_forty_too(self):
        self.weighed(("cut", "k5", "k5", 1), 50)
        self.weighed(("round", "seven", "seven", "seven", "a"), 44)
        self.weighed(("round", "three", "five", "five", "seven"), 40)
        self.weighed(("round", "three", "five", "seven", "seven"), 44)
        row, name = list(BASE), "seven"
        for again in range(5):
            row.append((f"m{again}", ("middle", name, name)))
            name = f"m{again}"
        self.assertEqual(weights(row)[-5:], [14, 28, 56, 112, 224])

    def test_some_rows(self):
        for seed in range(150):
            row = model.some_row(seed, 5 + seed % 56)
            self.assertEqual(weights(row), model.weights(row))

    def test_long_chains_are_weighed_once_each(self):
        row = placed("p0")
        for at in range(1, 60):
            row.append((f"p{at}", ("middle", f"p{at - 1}", f"p{at - 1}")))
        self.assertEqual(weights(row), [2 ** at for at in range(60)])


class Hanging(Limited):
    ROW = placed("a", "b", "c", "d") + [
        ("m", ("middle", "a", "b")), ("l", ("line", "c", "m")), ("n", ("line", "d", "d")), ("x", ("meet", "l", "n")),
        ("e", ("free", (9, 1), (9, 1))), ("k", ("circle", "e", "x")), ("o", ("cut", "l", "k", 2)),
        ("s", ("share", "e", "e", (1, 2))), ("w", ("inline", "o", "a", "o")), ("v", ("square", "l", "l"))]

    def test_beneath(self):
        for name, told in [("a", []), ("m", ["a", "b"]), ("l", ["a", "b", "c", "m"]), ("n", ["d"]),
                           ("x", ["a", "b", "c", "d", "m", "l", "n"]), ("e", []), ("s", ["e"]),
                           ("k", ["a", "b", "c", "d", "m", "l", "n", "x", "e"]),
                           ("o", ["a", "b", "c", "d", "m", "l", "n", "x", "e", "k"]),
                           ("w", ["a", "b", "c", "d", "m", "l", "n", "x", "e", "k", "o"]),
                           ("v", ["a", "b", "c", "m", "l"])]:
            self.assertEqual(beneath(self.ROW, name), told)
            self.assertIs(type(beneath(self.ROW, name)), list)

    def test_above(self):
        for name, told in [("a", ["m", "l", "x", "k", "o", "w", "v"]), ("b", ["m", "l", "x", "k", "o", "w", "v"]),
                           ("c", ["l", "x", "k", "o", "w", "v"]), ("d", ["n", "x", "k", "o", "w"]),
                           ("n", ["x", "k", "o", "w"]), ("e", ["k", "o", "s", "w"]), ("k", ["o", "w"]),
                           ("o", ["w"]), ("s", []), ("w", []), ("v", [])]:
            self.assertEqual(above(self.ROW, name), told)
            self.assertIs(type(above(self.ROW, name)), list)

    def test_some_rows(self):
        for seed in range(60):
            row = model.some_row(seed, 10 + seed % 51)
            names = [name for name, making in row]
            hung = {name: model.hung(row, name) for name in names}
            for name in names:
                self.assertEqual(beneath(row, name), [other for other in names if other in hung[name]])
                self.assertEqual(above(row, name), [other for other in names if name in hung[other]])

    def test_a_chain_of_sixty(self):
        row = placed("p0")
        for at in range(1, 60):
            row.append((f"p{at}", ("middle", f"p{at - 1}", f"p{at - 1}")))
        names = [name for name, making in row]
        for at, name in enumerate(names):
            self.assertEqual(beneath(row, name), names[:at])
            self.assertEqual(above(row, name), names[at + 1:])

    def test_words_of_the_page_as_names(self):
        row = [("free", FREE), ("at", FREE), ("gone", ("middle", "free", "at")), ("line", ("line", "gone", "free")),
               ("circle", ("circle", "line1", "at"))]
        row[4:] = [("line1", FREE), ("circle", ("circle", "line1", "at"))]
        self.assertEqual(beneath(row, "line"), ["free", "at", "gone"])
        self.assertEqual(above(row, "free"), ["gone", "line"])
        self.assertEqual(above(row, "at"), ["gone", "line", "circle"])
        self.assertEqual(beneath(row, "free"), [])
        self.assertEqual(beneath(row, "circle"), ["at", "line1"])

    def test_no_such_thing(self):
        for row in ([], placed("a"), self.ROW):
            for name in ("z", "", "A", "aa", "free", "middle", "No Name", "0", "a" * 13):
                for asked in (beneath, above):
                    for catcher in (NoThing, BookError):
                        with self.assertRaises(catcher) as caught:
                            asked(row, name)
                        self.assertIs(type(caught.exception), NoThing)
                        self.assertEqual(caught.exception.name, name)


class HandedIn(Limited):
    def test_nothing_is_changed(self):
        for seed in range(20):
            row = model.some_row(seed, 30)
            kept = list(row)
            weights(row)
            for name, making in kept:
                beneath(row, name)
                above(row, name)
            self.assertEqual(row, kept)

    def test_the_told_lists_are_the_askers_own(self):
        row = Hanging.ROW
        for asked in (lambda: weights(row), lambda: beneath(row, "k"), lambda: above(row, "d"), lambda: above(row, "v")):
            told = asked()
            kept = list(told)
            told.append("more")
            self.assertEqual(asked(), kept)
            told.clear()
            self.assertEqual(asked(), kept)

    def test_a_list_that_is_changed_later_changes_nothing(self):
        row = placed("a", "b") + [("m", ("middle", "a", "b"))]
        told = [weights(row), beneath(row, "m"), above(row, "a")]
        row.append(("n", ("middle", "m", "m")))
        row[0] = ("z", FREE)
        self.assertEqual(told, [[1, 1, 2], ["a", "b"], ["m"]])


if __name__ == "__main__":
    unittest.main()
