"""What things tell: points 20 to 23, and point 2 for the lists that are handed in and told."""

import unittest
from fractions import Fraction

import model
from geometry import pair
from limits import Limited
from movebook.tellings import anew


def free(x, y):
    return ("free", pair(x), pair(y))


def at(x, y):
    return ("at", pair(x), pair(y))


# Points at small places; the lines x = 0, y = 0, x = 1, x + y = 1; circles about (0, 0) and (6, 0).
ROW = [("o", free(0, 0)), ("e", free(1, 0)), ("n", free(0, 1)), ("p", free(3, 4)), ("q", free(6, 0)), ("f", free(5, 0)),
       ("oe", ("line", "o", "e")), ("on", ("line", "o", "n")), ("en", ("line", "e", "n")), ("up", ("upright", "e", "oe")),
       ("k", ("circle", "o", "p")), ("k2", ("circle", "q", "p")), ("unit", ("circle", "o", "e"))]


class Told(Limited):
    def tells(self, making, told, row=ROW, name="new"):
        answer = anew(row + [(name, making)])
        self.assertEqual(answer[-1], told, making)
        self.assertIs(type(answer), list)
        self.assertIs(type(answer[-1]), tuple)
        self.assertEqual(answer[:-1], anew(row))


class Standing(Told):
    def test_the_whole_row(self):
        self.assertEqual(anew(ROW), [
            at(0, 0), at(1, 0), at(0, 1), at(3, 4), at(6, 0), at(5, 0), ("line", 0, 1, 0), ("line", 1, 0, 0),
            ("line", 1, 1, 1), ("line", 1, 0, 1), ("circle", (0, 1), (0, 1), (25, 1)), ("circle", (6, 1), (0, 1), (25, 1)),
            ("circle", (0, 1), (0, 1), (1, 1))])
        self.assertEqual(anew([]), [])

    def test_free_points(self):
        self.tells(free(Fraction(-7, 12), 10 ** 9 - 1), at(Fraction(-7, 12), 10 ** 9 - 1))

    def test_points_of_two_points(self):
        self.tells(("middle", "p", "q"), at(Fraction(9, 2), 2))
        self.tells(("next", "p", "q"), at(9, -4))
        self.tells(("next", "q", "p"), at(0, 8))
        self.tells(("turn", "p", "o"), at(-4, 3))
        self.tells(("turn", "o", "p"), at(7, 1))
        self.tells(("share", "p", "q", (1, 3)), at(4, Fraction(8, 3)))
        self.tells(("share", "q", "p", (-1, 3)), at(7, Fraction(-4, 3)))
        self.tells(("share", "q", "p", (0, 1)), at(6, 0))
        self.tells(("middle", "p", "p"), at(3, 4))
        self.tells(("turn", "p", "p"), at(3, 4))
        self.tells(("next", "p", "p"), at(3, 4))

    def test_points_and_lines(self):
        self.tells(("foot", "p", "oe"), at(3, 0))
        self.tells(("foot", "p", "en"), at(0, 1))
        self.tells(("mirror", "p", "oe"), at(3, -4))
        self.tells(("mirror", "o", "en"), at(1, 1))
        self.tells(("meet", "oe", "en"), at(1, 0))
        self.tells(("meet", "on", "en"), at(0, 1))
        self.tells(("meet", "up", "en"), at(1, 0))

    def test_cuts(self):
        self.tells(("cut", "oe", "k", 1), at(-5, 0))
        self.tells(("cut", "oe", "k", 2), at(5, 0))
        self.tells(("cut", "on", "k", 1), at(0, -5))
        self.tells(("cut", "on", "k", 2), at(0, 5))
        self.tells(("cut", "k", "k2", 1), at(3, -4))
        self.tells(("cut", "k", "k2", 2), at(3, 4))
        self.tells(("cut", "k2", "k", 1), at(3, -4))
        for number in (1, 2):
            self.tells(("cut", "up", "unit", number), at(1, 0))
            self.tells(("cut", "unit", "k2", number), at(1, 0))

    def test_lines(self):
        self.tells(("line", "p", "q"), ("line", 4, 3, 24))
        self.tells(("line", "q", "p"), ("line", 4, 3, 24))
        self.tells(("along", "p", "en"), ("line", 1, 1, 7))
        self.tells(("along", "o", "oe"), ("line", 0, 1, 0))
        self.tells(("upright", "p", "en"), ("line", 1, -1, -1))
        self.tells(("upright", "p", "on"), ("line", 0, 1, 4))

    def test_circles(self):
        self.tells(("circle", "p", "q"), ("circle", (3, 1), (4, 1), (25, 1)))
        self.tells(("circle", "e", "n"), ("circle", (1, 1), (0, 1), (2, 1)))

    def test_claims(self):
        row = ROW + [("p2", free(3, -4)), ("w", free(-3, 4)), ("z", free(0, 5))]
        for making, kept in [(("inline", "o", "e", "q"), True), (("inline", "o", "e", "p"), False),
                             (("inline", "p", "p", "p"), True), (("inline", "p", "q", "p"), True),
                             (("round", "p", "p2", "w", "z"), True), (("round", "p", "p2", "w", "n"), False),
                             (("round", "o", "e", "f", "q"), True), (("round", "o", "o", "p", "n"), True),
                             (("alike", "o", "p", "o", "z"), True), (("alike", "o", "p", "p", "q"), True),
                             (("alike", "o", "p", "o", "q"), False), (("alike", "o", "o", "p", "p"), True),
                             (("alike", "o", "e", "p", "p"), False), (("beside", "on", "up"), True),
                             (("beside", "on", "on"), True), (("beside", "on", "en"), False),
                             (("beside", "on", "oe"), False), (("square", "on", "oe"), True),
                             (("square", "up", "oe"), True), (("square", "on", "en"), False),
                             (("square", "on", "up"), False), (("square", "on", "on"), False)]:
            self.tells(making, ("kept",) if kept else ("broken",), row)


class Failing(Told):
    """What fails itself is gone with its own name and its word."""

    ROW = ROW + [("o2", ("middle", "o", "o")), ("far", ("upright", "q", "oe")), ("half", ("circle", "e", "o"))]

    def fails(self, making, word):
        for name in ("new", "gone", "at", "same", "parallel"):
            self.tells(making, ("gone", name, word), self.ROW, name)

    def test_same(self):
        for word in ("line", "circle"):
            self.fails((word, "o", "o"), "same")
            self.fails((word, "o", "o2"), "same")
            self.fails((word, "o2", "o"), "same")

    def test_parallel(self):
        self.fails(("meet", "on", "on"), "parallel")
        self.fails(("meet", "on", "up"), "parallel")
        self.fails(("meet", "far", "up"), "parallel")

    def test_cuts(self):
        for number in (1, 2):
            self.fails(("cut", "far", "k", number), "miss")
            self.fails(("cut", "up", "k", number), "root")
            self.fails(("cut", "k", "unit", number), "centre")
            self.fails(("cut", "k", "k", number), "centre")
            self.fails(("cut", "unit", "half", number), "root")
            self.fails(("cut", "half", "k", number), "miss")

    def test_nothing_else_fails(self):
        words = set()
        for seed in range(200):
            row = model.some_row(seed, 30, far=2)
            for (name, making), told in zip(row, anew(row)):
                if told[0] == "gone" and told[1] == name:
                    words.add((making[0], told[2]))
        self.assertEqual(words, {("line", "same"), ("circle", "same"), ("meet", "parallel"), ("cut", "miss"),
                                 ("cut", "root"), ("cut", "centre")})


class Gone(Told):
    """What hangs on gone things tells the first thing in the row that fails itself."""

    def gone(self, row, *told):
        """The last things of the row are gone, so."""
        self.assertEqual(anew(row)[-len(told):], [("gone", *one) for one in told])
        self.assertEqual(anew(row), model.tellings(row))

    def test_each_sort_and_each_making(self):
        row = ROW + [("bad", ("line", "o", "o")), ("x", ("meet", "bad", "oe")), ("c", ("circle", "x", "o"))]
        fit = {"point": "o", "line": "oe", "circle": "k", "linecircle": "oe"}
        lost = {"point": "x", "line": "bad", "circle": "c", "linecircle": "bad"}
        for word, (sort, dues) in model.MADE.items():
            for place in range(len(dues)):
                on = [fit[due] for due in dues]
                on[place] = lost[dues[place]]
                more = {"share": [(1, 3)], "cut": [1]}.get(word, [])
                self.tells((word, *on, *more), ("gone", "bad", "same"), row)
                self.tells((word, *[lost[due] for due in dues], *more), ("gone", "bad", "same"), row)
        self.tells(("cut", "c", "k", 1), ("gone", "bad", "same"), row)

    def test_through_several_steps(self):
        self.gone(ROW + [("bad", ("meet", "on", "up")), ("a1", ("middle", "bad", "o")), ("a2", ("line", "e", "a1")),
                         ("a3", ("foot", "p", "a2")), ("a4", ("circle", "a3", "o")), ("a5", ("cut", "oe", "a4", 1)),
                         ("a6", ("inline", "o", "e", "a5"))], *[("bad", "parallel")] * 7)

    def test_what_would_fail_where_its_grounds_stood_does_not_fail_itself(self):
        self.gone(ROW + [("bad", ("line", "o", "o")), ("x", ("meet", "bad", "bad")), ("y", ("line", "x", "x"))],
                  ("bad", "same"), ("bad", "same"), ("bad", "same"))

    def test_the_first_in_the_row_and_not_the_first_of_the_grounds(self):
        bad = [("b1", ("meet", "on", "up")), ("b2", ("cut", "k", "k", 1)), ("b3", ("cut", "up", "k", 2))]
        for on in [("b1", "b2", "b3"), ("b3", "b2", "b1"), ("b2", "b3", "b1"), ("b2", "b1", "b3")]:
            self.gone(ROW + bad + [("new", ("inline", *on))], ("b1", "parallel"))
        self.gone(ROW + bad + [("new", ("middle", "b3", "b2"))], ("b2", "centre"))
        self.gone(ROW + bad + [("new", ("middle", "b2", "b3"))], ("b2", "centre"))
        self.gone(ROW + bad + [("new", ("inline", "o", "b3", "b2"))], ("b2", "centre"))

    def test_where_a_later_ground_hangs_on_an_earlier_failing_thing(self):
        row = ROW + [("b1", ("meet", "on", "up")), ("b2", ("cut", "k", "k", 1)), ("late", ("middle", "b1", "o"))]
        self.gone(row + [("new", ("middle", "b2", "late"))], ("b1", "parallel"))
        self.gone(row + [("new", ("middle", "late", "b2"))], ("b1", "parallel"))
        self.gone(row + [("mid", ("middle", "b2", "e")), ("new", ("inline", "mid", "late", "o"))],
                  ("b2", "centre"), ("b1", "parallel"))

    def test_things_beside_stand(self):
        row = ROW + [("bad", ("line", "o", "o")), ("x", ("middle", "o", "e"))]
        self.assertEqual(anew(row)[-2:], [("gone", "bad", "same"), at(Fraction(1, 2), 0)])

    def test_words_of_the_page_as_names(self):
        row = [("gone", free(0, 0)), ("kept", free(1, 0)), ("at", ("line", "gone", "gone")), ("line", ("line", "gone", "kept")),
               ("parallel", ("meet", "line", "line")), ("same", ("foot", "parallel", "at")),
               ("broken", ("inline", "gone", "kept", "kept"))]
        self.assertEqual(anew(row), [at(0, 0), at(1, 0), ("gone", "at", "same"), ("line", 0, 1, 0),
                                     ("gone", "parallel", "parallel"), ("gone", "at", "same"), ("kept",)])


class AnewAgain(Told):
    """Point 23: what a thing tells hangs on the row alone."""

    def test_some_rows_by_the_document(self):
        for seed in range(400):
            row = model.some_row(seed, 8 + seed % 53, far=2 + seed % 3)
            self.assertEqual(anew(row), model.tellings(row), seed)

    def test_some_rows_of_great_numbers(self):
        for seed in range(40):
            row = model.some_row(seed, 60, far=10 ** 9, parts=1000)
            self.assertEqual(anew(row), model.tellings(row), seed)

    def test_each_beginning_of_a_row_tells_the_same(self):
        for seed in range(15):
            row = model.some_row(seed, 30)
            told = anew(row)
            for many in range(31):
                self.assertEqual(anew(row[:many]), told[:many])

    def test_another_order_of_the_row_tells_the_same_where_all_stands(self):
        row = [("a", free(0, 0)), ("b", free(4, 2)), ("m", ("middle", "a", "b")), ("c", free(1, 7))]
        other = [row[3], row[1], row[0], row[2]]
        self.assertEqual(dict(zip([name for name, making in row], anew(row))),
                         dict(zip([name for name, making in other], anew(other))))

    def test_nothing_is_kept_from_one_asking_to_the_next(self):
        row = [("a", free(0, 0)), ("b", free(0, 0)), ("l", ("line", "a", "b")), ("m", ("along", "a", "l"))]
        moved = [("a", free(0, 0)), ("b", free(1, 1))] + row[2:]
        for again in range(3):
            self.assertEqual(anew(row)[2:], [("gone", "l", "same")] * 2)
            self.assertEqual(anew(moved)[2:], [("line", 1, -1, 0)] * 2)

    def test_sixty_heavy_things_in_good_time(self):
        row = [(f"f{k}", ("free", (10 ** 9 - 1 - k, 10 ** 9 - 2 - k), (k - 10 ** 9, 10 ** 9 - 1 - k))) for k in range(1, 11)]
        row += [(f"l{k}", ("line", f"f{2 * k + 1}", f"f{2 * k + 2}")) for k in range(5)]
        row += [("x0", ("meet", "l0", "l1")), ("x1", ("meet", "l2", "l3")), ("g8", ("line", "x0", "x1"))]
        row += [("x20", ("mirror", "x0", "g8")), ("x10", ("meet", "g8", "l4"))]
        while len(row) < 60:
            word = ("share", "line", "turn", "next", "circle", "middle")[len(row) % 6]
            making = (word, "x20", ("x20", "x10", "x0")[len(row) % 3]) + (((998, 999),) if word == "share" else ())
            row.append((f"z{len(row)}", making))
        self.assertEqual(max(model.weights(row)), 40)
        for again in range(20):
            told = anew(row)
        self.assertEqual(told, model.tellings(row))

    def test_a_long_chain_of_gone_things(self):
        row = [("a", free(0, 0)), ("b", free(1, 0)), ("bad", ("line", "a", "a"))]
        while len(row) < 41:
            row.append((f"t{len(row)}", ("along", "b", row[-1][0])))
        while len(row) < 60:
            row.append((f"t{len(row)}", ("meet", "t19", f"t{len(row) - 38}")))
        self.assertEqual(model.weights(row)[40], 40)
        self.assertEqual(anew(row)[2:], [("gone", "bad", "same")] * 58)


class HandedIn(Told):
    def test_nothing_is_changed(self):
        for seed in range(20):
            row = model.some_row(seed, 40)
            kept = list(row)
            anew(row)
            self.assertEqual(row, kept)

    def test_the_told_list_is_the_askers_own(self):
        told = anew(ROW)
        kept = list(told)
        told.append("more")
        told[0] = ("gone", "o", "same")
        self.assertEqual(anew(ROW), kept)
        told.clear()
        self.assertEqual(anew(ROW), kept)

    def test_a_list_that_is_changed_later_changes_nothing(self):
        row = [("a", free(0, 0)), ("b", free(1, 1))]
        told = anew(row)
        row[1] = ("b", free(2, 2))
        row.append(("c", free(3, 3)))
        self.assertEqual(told, [at(0, 0), at(1, 1)])


if __name__ == "__main__":
    unittest.main()
