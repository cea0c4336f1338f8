"""Move, shift and rehang, and what watchers hear of them: points 26 to 29, 31 and 34."""

import unittest

from bookcase import Booked, asked, at, built, free

FAR_PARTS = [(10 ** 9, 1), (-10 ** 9, 1), (1, 10 ** 9), (-1, 10 ** 9), (10 ** 60 - 1, 1), (1, 10 ** 60 - 1)]
NEAR_PARTS = [(10 ** 9 - 1, 1), (1 - 10 ** 9, 1), (1, 10 ** 9 - 1), (2 - 10 ** 9, 10 ** 9 - 1)]


class Move(Booked):
    def setUp(self):
        Booked.setUp(self)
        self.book = built(("a", free(0, 0)), ("b", free(2, 0)), ("l", ("line", "a", "b")), ("c", free(0, 3)),
                          ("n", ("along", "c", "l")), ("m", ("line", "a", "c")), ("o", ("meet", "m", "n")),
                          ("p", ("foot", "b", "n")), ("k", ("inline", "a", "b", "o")), ("r", ("circle", "a", "b")),
                          ("q", ("alike", "a", "b", "a", "c")))

    def test_the_answer_is_what_tells_otherwise_in_the_rows_order(self):
        self.answers(self.book, ["a", "l", "n", "p", "r"], "move", "a", at(0, 1))
        self.answers(self.book, ["b", "l", "n", "p", "r"], "move", "b", at(4, 2))
        self.answers(self.book, ["c", "n", "o", "p"], "move", "c", at(0, 8))
        self.assertEqual(self.book.row(), ["a", "b", "l", "c", "n", "m", "o", "p", "k", "r", "q"])
        self.assertEqual(self.book.making("c"), free(0, 8))

    def test_nothing_where_the_place_is_the_same(self):
        self.answers(self.book, [], "move", "a", at(0, 0))
        self.answers(self.book, [], "move", "b", at(2, 0))

    def test_along_the_line_only_what_is_otherwise(self):
        self.answers(self.book, ["b", "p", "r"], "move", "b", at(5, 0))
        self.answers(self.book, ["b", "p"], "move", "b", at(-5, 0))

    def test_claims_that_are_kept_broken_and_gone(self):
        self.answers(self.book, ["b", "p", "r", "q"], "move", "b", at(3, 0))
        self.assertEqual((self.book.telling("q"), self.book.telling("k")), (("kept",), ("broken",)))
        self.answers(self.book, ["b", "p", "r", "q"], "move", "b", at(2, 0))
        self.assertEqual(self.book.telling("q"), ("broken",))
        self.answers(self.book, ["b", "l", "n", "o", "p", "k", "r"], "move", "b", at(0, 9))
        self.assertEqual(self.book.telling("k"), ("gone", "o", "parallel"))

    def test_what_is_gone_comes_back(self):
        before = asked(self.book)
        self.answers(self.book, ["b", "l", "n", "o", "p", "k", "r"], "move", "b", at(0, 0))
        self.assertEqual([self.book.telling(name) for name in ("l", "n", "o", "p", "k", "r")],
                         [("gone", "l", "same")] * 5 + [("gone", "r", "same")])
        self.answers(self.book, ["b", "l", "n", "o", "p", "k", "r"], "move", "b", at(2, 0))
        self.assertEqual(asked(self.book), before)

    def test_gone_with_another_name_or_word_is_otherwise(self):
        book = built(("a", free(0, 0)), ("b", free(0, 0)), ("c", free(0, 0)), ("l", ("line", "a", "b")),
                     ("m", ("line", "b", "c")), ("n", ("meet", "l", "m")), ("d", ("inline", "n", "a", "b")))
        self.assertEqual(book.telling("d"), ("gone", "l", "same"))
        self.answers(book, ["a", "l", "n", "d"], "move", "a", at(1, 0))
        self.assertEqual(book.telling("d"), ("gone", "m", "same"))
        self.answers(book, ["c", "m", "n", "d"], "move", "c", at(5, 0))
        self.assertEqual(book.telling("d"), ("gone", "n", "parallel"))
        book = built(("o", free(0, 0)), ("p", free(5, 0)), ("k", ("circle", "o", "p")), ("a", free(0, 9)), ("b", free(1, 9)),
                     ("l", ("line", "a", "b")), ("x", ("cut", "l", "k", 1)))
        self.assertEqual(book.telling("x"), ("gone", "x", "miss"))
        self.answers(book, ["b", "l", "x"], "move", "b", at(1, 5))
        self.assertEqual(book.telling("x"), ("gone", "x", "root"))
        self.answers(book, ["b", "l", "x"], "move", "b", at(0, 0))
        self.assertEqual(book.telling("x"), ("at", (0, 1), (-5, 1)))

    def test_no_thing(self):
        for name in ["no", "", "A"]:
            self.refused(self.book, "NoThing", name, "move", name, at(0, 0))

    def test_not_free(self):
        for name in ["l", "n", "o", "k", "r"]:
            self.refused(self.book, "NotFree", name, "move", name, at(0, 0))

    def test_far_at_each_bound(self):
        for part in FAR_PARTS:
            for place in [(part, (0, 1)), ((0, 1), part), (part, part)]:
                self.refused(self.book, "Far", "b", "move", "b", place)
        for part in NEAR_PARTS:
            for place in [(part, (0, 1)), ((0, 1), part), (part, part)]:
                self.book.move("b", place)
                self.assertEqual(self.book.telling("b"), ("at", *place))

    def test_locked_with_the_first_in_the_row_that_would_tell_otherwise(self):
        self.book.lock("p")
        self.book.lock("n")
        self.refused(self.book, "Locked", "n", "move", "a", at(0, 1))
        self.refused(self.book, "Locked", "n", "move", "b", at(0, 0))
        # The line stays the same along itself.
        self.refused(self.book, "Locked", "p", "move", "b", at(7, 0))
        self.book.unlock("p")
        self.answers(self.book, ["b", "p", "r"], "move", "b", at(7, 0))
        self.answers(self.book, [], "move", "a", at(0, 0))
        self.book.unlock("n")
        self.book.lock("o")
        self.refused(self.book, "Locked", "o", "move", "c", at(0, 7))
        self.answers(self.book, ["a", "l", "n", "p", "r"], "move", "a", at(0, 1))
        self.book.lock("a")
        self.refused(self.book, "Locked", "a", "move", "a", at(0, 2))
        self.answers(self.book, [], "move", "a", at(0, 1))

    def test_a_locked_thing_that_is_gone_stays_gone_alike(self):
        self.book.move("b", at(0, 0))
        self.book.lock("o")
        self.refused(self.book, "Locked", "o", "move", "b", at(1, 0))
        self.answers(self.book, ["c"], "move", "c", at(0, 5))
        self.answers(self.book, ["c", "m"], "move", "c", at(5, 5))

    def test_two_at_once(self):
        far = (FAR_PARTS[0], (0, 1))
        self.book.lock("l")
        self.book.lock("b")
        self.refused(self.book, "NoThing", "no", "move", "no", far)
        self.refused(self.book, "NotFree", "l", "move", "l", far)
        self.refused(self.book, "NotFree", "l", "move", "l", at(1, 1))
        self.refused(self.book, "Far", "b", "move", "b", far)
        self.refused(self.book, "Far", "a", "move", "a", far)


class Shift(Booked):
    def setUp(self):
        Booked.setUp(self)
        self.book = built(("a", free(0, 0)), ("b", free(2, 0)), ("m", ("middle", "a", "b")), ("l", ("line", "a", "b")),
                          ("c", free(0, 3)), ("f", ("foot", "c", "l")), ("k", ("inline", "a", "b", "c")))
        self.book.group("ab", ["a", "b"])
        self.book.group("am", ["m", "a", "l", "k"])
        self.book.group("held", ["m", "l", "f", "k"])
        self.book.group("empty", [])

    def test_all_in_one_deed(self):
        self.answers(self.book, ["a", "b", "m"], "shift", "ab", at(5, 0))
        self.answers(self.book, ["a", "b", "m", "l", "f"], "shift", "ab", ((0, 1), (1, 2)))
        self.assertEqual(self.book.making("b"), ("free", (7, 1), (1, 2)))
        self.answers(self.book, ["a", "b", "m", "l", "f"], "shift", "ab", ((-1, 3), (-1, 2)))
        self.assertEqual(self.book.making("a"), ("free", (14, 3), (0, 1)))

    def test_others_are_not_moved_by_themselves(self):
        self.answers(self.book, ["a", "m"], "shift", "am", at(-4, 0))
        self.assertEqual(self.book.telling("m"), ("at", (-1, 1), (0, 1)))
        self.answers(self.book, [], "shift", "held", at(3, 3))

    def test_an_empty_group_is_shifted_by_a_deed(self):
        self.answers(self.book, [], "shift", "empty", at(1, 1))
        self.answers(self.book, [], "shift", "empty", (FAR_PARTS[0], FAR_PARTS[0]))
        self.answers(self.book, [], "shift", "ab", at(0, 0))

    def test_no_group(self):
        for name in ["no", "a", "", "AB"]:
            self.refused(self.book, "NoGroup", name, "shift", name, at(0, 0))

    def test_far_with_the_first_in_the_row(self):
        most = 10 ** 9 - 1
        self.book.group("all", ["c", "k", "b", "a", "m"])
        self.refused(self.book, "Far", "b", "shift", "all", at(most - 1, 0))
        self.refused(self.book, "Far", "c", "shift", "all", at(0, most - 2))
        self.refused(self.book, "Far", "a", "shift", "all", at(most + 1, 0))
        self.refused(self.book, "Far", "a", "shift", "ab", ((0, 1), (1, 10 ** 9)))
        self.answers(self.book, ["a", "b", "m", "c", "f"], "shift", "all", at(most - 2, 0))
        self.refused(self.book, "Far", "b", "shift", "all", at(1, 0))
        self.answers(self.book, ["a", "b", "m", "c", "f"], "shift", "all", at(-most, 0))

    def test_far_steps_to_near_places(self):
        book = built(("a", ("free", (1, 10 ** 9 - 1), (0, 1))))
        book.group("g", ["a"])
        self.answers(book, ["a"], "shift", "g", ((-1, 10 ** 9 - 1), (-5, 1)))
        book = built(("a", free(1 - 10 ** 9, 0)))
        book.group("g", ["a"])
        self.answers(book, ["a"], "shift", "g", at(2 * 10 ** 9 - 2, 0))
        self.refused(book, "Far", "a", "shift", "g", ((1, 10 ** 60 - 1), (0, 1)))

    def test_locked_with_the_first_in_the_row(self):
        self.book.lock("f")
        self.book.lock("l")
        self.answers(self.book, ["a", "b", "m"], "shift", "ab", at(3, 0))
        self.refused(self.book, "Locked", "l", "shift", "ab", at(0, 1))
        self.book.unlock("l")
        self.refused(self.book, "Locked", "f", "shift", "ab", at(0, 1))
        self.book.lock("b")
        self.refused(self.book, "Locked", "b", "shift", "ab", at(1, 0))
        self.answers(self.book, ["a", "m"], "shift", "am", at(1, 0))

    def test_two_at_once(self):
        far = (FAR_PARTS[0], (0, 1))
        self.book.lock("a")
        self.refused(self.book, "NoGroup", "no", "shift", "no", far)
        self.refused(self.book, "NoGroup", "a", "shift", "a", at(1, 1))
        self.refused(self.book, "Far", "a", "shift", "ab", far)
        # The first of them that is far is told, though the locked one stands ahead of it.
        self.refused(self.book, "Far", "b", "shift", "ab", at(10 ** 9 - 2, 0))


class Rehang(Booked):
    def setUp(self):
        Booked.setUp(self)
        self.book = built(("a", free(0, 0)), ("b", free(2, 0)), ("m", ("middle", "a", "b")), ("l", ("line", "a", "m")),
                          ("c", free(0, 3)), ("f", ("foot", "c", "l")), ("r", ("circle", "c", "b")), ("n", ("line", "a", "c")),
                          ("k", ("inline", "a", "b", "c")), ("s", ("share", "b", "c", (1, 3))))

    def test_the_order_of_the_row_behind_it(self):
        self.answers(self.book, ["m"], "rehang", "m", ("next", "a", "b"))
        self.assertEqual(self.book.row(), ["a", "b", "c", "r", "n", "k", "s", "m", "l", "f"])
        self.answers(self.book, ["m", "l", "f"], "rehang", "m", ("share", "a", "s", (1, 2)))
        self.assertEqual(self.book.row(), ["a", "b", "c", "r", "n", "k", "s", "m", "l", "f"])
        self.answers(self.book, ["a", "n", "k", "m", "l", "f"], "rehang", "a", ("middle", "b", "c"))
        self.assertEqual(self.book.row(), ["b", "c", "r", "s", "a", "n", "k", "m", "l", "f"])

    def test_also_where_the_new_making_is_the_old_one(self):
        self.answers(self.book, [], "rehang", "b", free(2, 0))
        self.assertEqual(self.book.row(), ["a", "c", "n", "b", "m", "l", "f", "r", "k", "s"])
        self.answers(self.book, [], "rehang", "k", ("inline", "a", "b", "c"))
        self.assertEqual(self.book.row()[-1], "k")

    def test_of_each_sort(self):
        self.answers(self.book, ["f"], "rehang", "f", free(9, 9))
        self.answers(self.book, ["r"], "rehang", "r", ("circle", "a", "c"))
        self.answers(self.book, ["k"], "rehang", "k", ("inline", "a", "b", "m"))
        self.answers(self.book, ["n"], "rehang", "n", ("along", "c", "l"))
        self.answers(self.book, ["s"], "rehang", "s", ("cut", "n", "r", 2))
        self.assertEqual(self.book.telling("k"), ("kept",))

    def test_name_lock_groups_and_watchers_stay(self):
        self.book.group("g", ["m", "a", "s"])
        self.book.watch("w", ["s", "m"])
        self.book.watch("all", None)
        self.book.lock("s")
        self.book.lock("l")
        self.answers(self.book, ["m"], "rehang", "m", ("next", "a", "b"))
        self.assertEqual(self.book.groups(), [("g", ("a", "s", "m"))])
        self.assertEqual(self.book.watchers(), [("all", None), ("w", ("s", "m"))])
        self.assertEqual(self.book.locked(), ["s", "l"])
        self.assertEqual((self.book.heard("w"), self.book.heard("all")), ([("m",)], [("m",)]))

    def test_a_locked_thing_may_be_hung_otherwise_where_it_tells_the_same(self):
        self.book.lock("m")
        self.answers(self.book, [], "rehang", "m", ("middle", "b", "a"))
        self.answers(self.book, [], "rehang", "m", free(1, 0))
        self.assertEqual((self.book.making("m"), self.book.locked()), (free(1, 0), ["m"]))
        self.answers(self.book, ["a", "n"], "move", "a", at(-8, 0))
        self.assertEqual(self.book.telling("m"), ("at", (1, 1), (0, 1)))

    def test_gone_otherwise_by_the_order_of_the_row(self):
        book = built(("a", free(0, 0)), ("b", free(0, 0)), ("l", ("line", "a", "a")), ("m", ("line", "b", "b")),
                     ("o", ("meet", "l", "m")))
        self.assertEqual(book.telling("o"), ("gone", "l", "same"))
        self.answers(book, ["o"], "rehang", "a", free(0, 0))
        self.assertEqual((book.row(), book.telling("o")), (["b", "m", "a", "l", "o"], ("gone", "m", "same")))
        book.undo()
        book.lock("o")
        self.refused(book, "Locked", "o", "rehang", "a", free(0, 0))
        self.refused(book, "Locked", "o", "rehang", "l", ("line", "a", "a"))
        self.answers(book, [], "rehang", "b", free(0, 0))

    def test_no_thing_of_the_thing(self):
        for name in ["no", "", "A"]:
            self.refused(self.book, "NoThing", name, "rehang", name, free(0, 0))

    def test_no_thing_of_the_first_ground(self):
        self.refused(self.book, "NoThing", "no", "rehang", "k", ("inline", "a", "no", "nor"))
        self.refused(self.book, "NoThing", "", "rehang", "m", ("middle", "a", ""))

    def test_wrong_sort_of_the_first_ground(self):
        self.refused(self.book, "WrongSort", "l", "rehang", "k", ("inline", "a", "l", "k"))
        self.refused(self.book, "WrongSort", "a", "rehang", "s", ("cut", "a", "l", 1))

    def test_wrong_sort_of_the_thing(self):
        for name, making in [("a", ("line", "b", "c")), ("l", free(0, 0)), ("r", ("line", "a", "b")),
                             ("k", ("circle", "a", "b")), ("n", ("beside", "l", "l")), ("m", ("circle", "a", "b"))]:
            self.refused(self.book, "WrongSort", name, "rehang", name, making)

    def test_ring(self):
        self.refused(self.book, "Ring", "m", "rehang", "m", ("middle", "a", "m"))
        self.refused(self.book, "Ring", "f", "rehang", "m", ("middle", "f", "m"))
        self.refused(self.book, "Ring", "m", "rehang", "m", ("middle", "m", "f"))
        self.refused(self.book, "Ring", "l", "rehang", "a", ("foot", "c", "l"))
        self.refused(self.book, "Ring", "l", "rehang", "l", ("along", "a", "l"))

    def test_far(self):
        for part in FAR_PARTS:
            self.refused(self.book, "Far", "a", "rehang", "a", ("free", part, (0, 1)))
            self.refused(self.book, "Far", "m", "rehang", "m", ("free", (0, 1), part))
        self.refused(self.book, "Far", "m", "rehang", "m", ("share", "a", "b", (1000, 1)))
        self.answers(self.book, ["m"], "rehang", "m", ("free", (10 ** 9 - 1, 1), (0, 1)))

    def test_locked_with_the_first_in_the_row(self):
        self.book.lock("f")
        self.book.lock("l")
        self.refused(self.book, "Locked", "l", "rehang", "m", free(5, 5))
        self.book.unlock("l")
        self.refused(self.book, "Locked", "f", "rehang", "m", free(5, 5))
        self.refused(self.book, "Locked", "f", "rehang", "c", free(5, 5))
        self.answers(self.book, ["m"], "rehang", "m", free(5, 0))


class HeavyRehang(Booked):
    def setUp(self):
        Booked.setUp(self)
        self.book = built(("a", free(0, 0)), ("b", free(2, 0)), ("p", ("middle", "a", "b")), ("q", ("middle", "p", "p")),
                          ("r", ("middle", "q", "q")), ("x", free(1, 1)), ("s", ("middle", "r", "r")), ("l", ("line", "s", "s")),
                          ("t", ("middle", "s", "r")), ("h32", ("middle", "s", "s")), ("h34", ("share", "h32", "p", (1, 2))))

    def test_with_the_first_in_the_row_as_it_was(self):
        self.assertEqual([self.book.weight(name) for name in self.book.row()], [1, 1, 2, 4, 8, 1, 16, 32, 24, 32, 34])
        # First the thing itself, then things that hang on it, far behind it in the row.
        self.refused(self.book, "TooHeavy", "x", "rehang", "x", ("middle", "h34", "r"))
        self.book.put("y", ("middle", "x", "x"))
        self.refused(self.book, "TooHeavy", "l", "rehang", "p", ("middle", "x", "y"))
        self.book.take("l", False)
        self.refused(self.book, "TooHeavy", "h32", "rehang", "p", ("middle", "x", "y"))
        self.book.take("h32", True)
        self.answers(self.book, ["p", "q", "r", "s", "t"], "rehang", "p", ("middle", "x", "y"))
        self.assertEqual(self.book.weight("t"), 36)

    def test_lighter_is_fine(self):
        self.answers(self.book, ["p", "q", "r", "s", "t", "h32", "h34"], "rehang", "p", free(7, 0))
        self.assertEqual(self.book.weight("h34"), 17)


class RehangTwoAtOnce(Booked):
    """Of each two refusals of point 34 that are due at once, the first of its order."""

    def setUp(self):
        Booked.setUp(self)
        self.book = built(("a", free(0, 0)), ("b", free(2, 0)), ("m", ("middle", "a", "b")), ("l", ("line", "a", "b")),
                          ("h4", ("middle", "m", "m")), ("h8", ("middle", "h4", "h4")), ("h16", ("middle", "h8", "h8")),
                          ("h32", ("middle", "h16", "h16")), ("x", free(1, 1)), ("y", ("middle", "x", "x")),
                          ("z", ("next", "y", "a")), ("n", ("line", "x", "a")))
        for name in self.book.row():
            if name in ("x", "y", "z", "n"):
                self.book.lock(name)

    def test_no_thing_of_the_thing_ahead_of_all(self):
        far = ("share", "a", "b", (1000, 1))
        for making in [("middle", "a", "nor"), ("middle", "a", "l"), ("line", "a", "b"), far, ("middle", "h32", "h32"),
                       free(5, 5)]:
            self.refused(self.book, "NoThing", "no", "rehang", "no", making)
        self.refused(self.book, "NoThing", "no", "rehang", "no", ("middle", "no", "nor"))

    def test_no_thing_of_a_ground_ahead_of_the_rest(self):
        for making in [("middle", "l", "nor"), ("line", "a", "nor"), ("middle", "x", "nor"), ("middle", "z", "nor"),
                       ("share", "a", "nor", (1000, 1)), ("inline", "h32", "h32", "nor"), ("middle", "b", "nor")]:
            self.refused(self.book, "NoThing", "nor", "rehang", "x", making)

    def test_wrong_sort_of_a_ground_ahead_of_the_rest(self):
        for making in [("line", "a", "l"), ("middle", "x", "l"), ("middle", "y", "l"), ("share", "a", "l", (1000, 1)),
                       ("inline", "h32", "h32", "l"), ("middle", "b", "l")]:
            self.refused(self.book, "WrongSort", "l", "rehang", "x", making)

    def test_wrong_sort_of_the_thing_ahead_of_the_rest(self):
        self.refused(self.book, "WrongSort", "x", "rehang", "x", ("line", "x", "y"))
        self.refused(self.book, "WrongSort", "n", "rehang", "n", ("free", (10 ** 9, 1), (0, 1)))
        self.refused(self.book, "WrongSort", "n", "rehang", "n", ("share", "a", "b", (1000, 1)))
        self.refused(self.book, "WrongSort", "x", "rehang", "x", ("line", "h32", "h32"))
        self.refused(self.book, "WrongSort", "x", "rehang", "x", ("line", "a", "b"))

    def test_ring_ahead_of_the_rest(self):
        self.refused(self.book, "Ring", "x", "rehang", "x", ("share", "x", "b", (1000, 1)))
        self.refused(self.book, "Ring", "y", "rehang", "x", ("middle", "h32", "y"))
        self.refused(self.book, "Ring", "h32", "rehang", "h16", ("middle", "h32", "h32"))
        self.refused(self.book, "Ring", "z", "rehang", "x", ("middle", "a", "z"))

    def test_far_ahead_of_too_heavy_and_locked(self):
        self.refused(self.book, "Far", "x", "rehang", "x", ("share", "h32", "h32", (1, 1000)))
        self.refused(self.book, "Far", "x", "rehang", "x", ("free", (10 ** 9, 1), (0, 1)))

    def test_too_heavy_ahead_of_locked(self):
        self.refused(self.book, "TooHeavy", "x", "rehang", "x", ("middle", "h32", "h16"))
        self.refused(self.book, "TooHeavy", "y", "rehang", "x", ("middle", "h32", "a"))
        self.refused(self.book, "TooHeavy", "z", "rehang", "x", ("middle", "h16", "h4"))
        self.refused(self.book, "Locked", "x", "rehang", "x", ("middle", "a", "b"))
        self.refused(self.book, "Locked", "n", "rehang", "n", ("line", "a", "b"))


class Watchers(Booked):
    def setUp(self):
        Booked.setUp(self)
        self.book = built(("a", free(0, 0)), ("b", free(2, 0)), ("m", ("middle", "a", "b")), ("l", ("line", "a", "b")))

    def test_of_all_things_those_put_later_too(self):
        self.answers(self.book, None, "watch", "w", None)
        self.assertEqual((self.book.watchers(), self.book.heard("w")), ([("w", None)], []))
        self.book.put("c", ("inline", "a", "b", "m"))
        self.book.put("d", ("turn", "a", "b"))
        self.book.move("a", at(0, 2))
        self.assertEqual(self.book.heard("w"), [("a", "m", "l", "d")])

    def test_of_a_list_with_names_several_times(self):
        self.answers(self.book, None, "watch", "w", ["m", "a", "m", "m", "a"])
        self.assertEqual(self.book.watchers(), [("w", ("a", "m"))])
        self.book.move("b", at(0, 4))
        self.book.move("a", at(0, 2))
        self.book.move("a", at(0, 3))
        self.assertEqual(self.book.heard("w"), [("m",), ("a", "m"), ("a", "m")])

    def test_of_none(self):
        self.answers(self.book, None, "watch", "w", [])
        self.book.move("a", at(0, 2))
        self.assertEqual((self.book.watchers(), self.book.heard("w")), ([("w", ())], []))

    def test_the_others_hear_nothing(self):
        self.book.watch("w", ["a"])
        self.book.watch("v", ["l"])
        self.book.move("b", at(6, 0))
        self.assertEqual((self.book.heard("w"), self.book.heard("v")), ([], []))
        self.book.move("b", at(6, 1))
        self.assertEqual((self.book.heard("w"), self.book.heard("v")), ([], [("l",)]))

    def test_a_move_that_changes_nothing_is_not_heard(self):
        self.book.watch("w", None)
        self.book.group("g", [])
        self.answers(self.book, [], "move", "a", at(0, 0))
        self.answers(self.book, [], "shift", "g", at(1, 1))
        self.answers(self.book, [], "rehang", "a", free(0, 0))
        self.assertEqual(self.book.heard("w"), [])

    def test_behind_move_shift_and_rehang_alone(self):
        self.book.watch("w", None)
        self.book.group("g", ["a", "b"])
        for deed, *arguments in [("put", "c", free(1, 1)), ("rename", "c", "d"), ("lock", "d"), ("unlock", "d"),
                                 ("take", "d", False), ("group", "h", ["a"]), ("ungroup", "h"), ("watch", "v", None),
                                 ("hush", "v"), ("unwatch", "v")]:
            getattr(self.book, deed)(*arguments)
            self.assertEqual(self.book.heard("w"), [], deed)
        self.book.move("a", at(1, 1))
        self.book.shift("g", at(1, 1))
        self.book.rehang("m", ("next", "a", "b"))
        self.book.undo()
        self.book.again()
        self.assertEqual(self.book.heard("w"), [("a", "m", "l"), ("a", "b", "m", "l"), ("m",)])

    def test_a_refused_move_is_not_heard(self):
        self.book.watch("w", None)
        self.book.lock("l")
        self.refused(self.book, "Locked", "l", "move", "a", at(5, 5))
        self.assertEqual(self.book.heard("w"), [])

    def test_in_the_rows_order(self):
        self.book.watch("w", ["l", "m", "b", "a"])
        self.book.rehang("m", ("middle", "b", "a"))
        self.book.group("g", ["b", "a"])
        self.book.shift("g", at(3, 7))
        self.assertEqual(self.book.heard("w"), [("a", "b", "l", "m")])

    def test_set_anew_it_has_heard_nothing(self):
        self.book.watch("w", None)
        self.book.move("a", at(1, 1))
        self.answers(self.book, None, "watch", "w", ["b"])
        self.assertEqual((self.book.heard("w"), self.book.watchers()), ([], [("w", ("b",))]))
        self.book.move("b", at(1, 2))
        self.answers(self.book, None, "watch", "w", ["b"])
        self.assertEqual(self.book.heard("w"), [])

    def test_hush_and_unwatch(self):
        self.book.watch("w", ["a"])
        self.book.watch("v", None)
        self.book.move("a", at(1, 1))
        self.answers(self.book, None, "hush", "w")
        self.assertEqual((self.book.heard("w"), self.book.heard("v")), ([], [("a", "m", "l")]))
        self.assertEqual(self.book.watchers(), [("v", None), ("w", ("a",))])
        self.book.move("a", at(2, 2))
        self.assertEqual((self.book.heard("w"), len(self.book.heard("v"))), ([("a",)], 2))
        self.answers(self.book, None, "unwatch", "w")
        self.assertEqual(self.book.watchers(), [("v", None)])
        for deed in ("heard", "hush", "unwatch"):
            for name in ("w", "a", "", "V"):
                self.refused(self.book, "NoWatcher", name, deed, name)

    def test_what_was_heard_goes_back_with_undo(self):
        self.book.watch("w", None)
        self.book.move("a", at(1, 1))
        self.book.move("b", at(1, 2))
        self.book.hush("w")
        self.book.undo()
        self.assertEqual(len(self.book.heard("w")), 2)
        self.book.undo()
        self.assertEqual(self.book.heard("w"), [("a", "m", "l")])
        self.book.undo()
        self.assertEqual(self.book.heard("w"), [])
        self.book.again()
        self.assertEqual(self.book.heard("w"), [("a", "m", "l")])


if __name__ == "__main__":
    unittest.main()
