"""What is refused in a row: points 17, 18 and 19."""

import unittest

import model
from limits import Limited
from movebook import errors
from movebook.errors import BookError
from movebook.tellings import anew

A = ("a", ("free", (0, 1), (0, 1)))
B = ("b", ("free", (1, 1), (0, 1)))
C = ("c", ("free", (0, 1), (1, 1)))
# One thing of each sort, and points of the weights 8, 32 and 40.
ROW = [A, B, C, ("l", ("line", "a", "b")), ("m", ("line", "a", "c")), ("k", ("circle", "a", "b")),
       ("claim", ("inline", "a", "b", "c")), ("h2", ("middle", "a", "b")), ("h4", ("middle", "h2", "h2")),
       ("h8", ("middle", "h4", "h4")), ("h16", ("middle", "h8", "h8")), ("h32", ("middle", "h16", "h16")),
       ("h40", ("middle", "h32", "h8")), ("g40", ("line", "h32", "h8")), ("r4", ("circle", "h2", "h2")),
       ("g12", ("line", "h8", "h4")), ("h12", ("next", "h8", "h4")), ("k36", ("circle", "h32", "h4"))]
GOOD = ("middle", "a", "b")
# With each sort, the things of the row that are of another one.
OTHERS = {"point": ["l", "k", "claim"], "line": ["a", "k", "claim"], "circle": ["a", "l", "claim"],
          "linecircle": ["a", "claim"]}
FITTING = {"point": "a", "line": "l", "circle": "k", "linecircle": "l"}
BAD_NAMES = ["", "A", "1a", "a b", "a_b", "a" * 13, "-", "No", "a\n"]
FAR_SHARES = [(1000, 1), (-1000, 1), (1, 1000), (-1, 1000), (1001, 7), (7, 1001), (10 ** 60 - 1, 1), (1, 10 ** 60 - 1)]
NEAR_SHARES = [(999, 1), (-999, 1), (1, 999), (-1, 999), (999, 998), (-998, 999), (0, 1), (1, 1)]
FAR_PARTS = [(10 ** 9, 1), (-10 ** 9, 1), (1, 10 ** 9), (-1, 10 ** 9), (10 ** 9 + 1, 2), (3, 10 ** 9 + 1),
             (10 ** 60 - 1, 1), (1, 10 ** 60 - 1)]
NEAR_PARTS = [(10 ** 9 - 1, 1), (1 - 10 ** 9, 1), (1, 10 ** 9 - 1), (-1, 10 ** 9 - 1), (10 ** 9 - 1, 10 ** 9 - 2),
              (2 - 10 ** 9, 10 ** 9 - 1), (1000, 1), (1, 1000)]


def made_of(word, on):
    """A making of the word with these grounds."""
    more = {"share": [(1, 3)], "cut": [1]}.get(word, [])
    return (word, *on, *more)


class Refused(Limited):
    def refused(self, row, refusal, name):
        kept = list(row)
        for catcher in (getattr(errors, refusal), BookError):
            with self.assertRaises(catcher) as caught:
                anew(row)
            self.assertEqual((type(caught.exception).__name__, caught.exception.name), (refusal, name))
        self.assertEqual(row, kept)

    def next_refused(self, name, making, refusal, told):
        """Last of the list, and with things behind it that are to be refused, too."""
        self.refused(ROW + [(name, making)], refusal, told)
        self.refused(ROW + [(name, making), ("A B", GOOD), ("a", GOOD)], refusal, told)

    def next_stands(self, name, making):
        row = ROW + [(name, making)]
        self.assertEqual(len(anew(row)), len(row))
        self.assertEqual(anew(row), model.tellings(row))


class Alone(Refused):
    def test_the_row_itself_is_refused_nothing(self):
        self.assertEqual(anew(ROW), model.tellings(ROW))
        self.assertEqual(anew([]), [])

    def test_bad_name(self):
        for name in BAD_NAMES:
            self.next_refused(name, GOOD, "BadName", name)
            self.refused([(name, A[1])], "BadName", name)
        for name in ("z", "a1", "a" * 12, "free", "at", "gone", "z00000000000"):
            self.next_stands(name, GOOD)

    def test_taken(self):
        for name, making in ROW:
            self.next_refused(name, GOOD, "Taken", name)
            self.next_refused(name, making, "Taken", name)

    def test_no_thing_for_each_ground_of_each_making(self):
        for word, (sort, dues) in model.MADE.items():
            for at in range(len(dues)):
                on = [FITTING[due] for due in dues]
                on[at] = "missing"
                self.next_refused("new", made_of(word, on), "NoThing", "missing")

    def test_no_thing_tells_the_first(self):
        self.next_refused("new", ("inline", "a", "no", "nor"), "NoThing", "no")
        self.next_refused("new", ("inline", "nor", "a", "no"), "NoThing", "nor")
        self.next_refused("new", ("round", "a", "b", "c", "never"), "NoThing", "never")
        self.next_refused("new", ("middle", "no", "no"), "NoThing", "no")

    def test_no_thing_of_names_that_are_no_good_names(self):
        for name in BAD_NAMES:
            self.next_refused("new", ("middle", "a", name), "NoThing", name)

    def test_no_thing_where_it_hangs_on_itself_or_on_a_later_one(self):
        self.next_refused("new", ("middle", "a", "new"), "NoThing", "new")
        self.refused([A, ("x", ("middle", "a", "b")), B], "NoThing", "b")
        self.refused([("l", ("line", "a", "b")), A, B], "NoThing", "a")

    def test_words_of_the_page_are_things_only_where_they_stand_in_the_row(self):
        self.next_refused("new", ("middle", "free", "a"), "NoThing", "free")
        self.next_refused("new", ("line", "a", "line"), "NoThing", "line")
        self.assertEqual(len(anew(ROW + [("free", GOOD), ("new", ("middle", "free", "a"))])), len(ROW) + 2)

    def test_wrong_sort_for_each_ground_of_each_making(self):
        for word, (sort, dues) in model.MADE.items():
            for at, due in enumerate(dues):
                for other in OTHERS[due]:
                    on = [FITTING[each] for each in dues]
                    on[at] = other
                    self.next_refused("new", made_of(word, on), "WrongSort", other)
            if dues:
                self.next_stands("new", made_of(word, [FITTING[due] for due in dues]))

    def test_wrong_sort_tells_the_first(self):
        self.next_refused("new", ("inline", "a", "k", "l"), "WrongSort", "k")
        self.next_refused("new", ("round", "l", "a", "k", "claim"), "WrongSort", "l")
        self.next_refused("new", ("foot", "l", "a"), "WrongSort", "l")
        self.next_refused("new", ("cut", "k", "l", 1), "WrongSort", "l")
        self.next_refused("new", ("cut", "a", "l", 1), "WrongSort", "a")

    def test_a_cut_takes_a_line_or_a_circle_first_and_a_circle_then(self):
        self.next_stands("new", ("cut", "l", "k", 1))
        self.next_stands("new", ("cut", "k", "k", 2))

    def test_far_free_points(self):
        for part in FAR_PARTS:
            self.next_refused("new", ("free", part, (0, 1)), "Far", "new")
            self.next_refused("new", ("free", (0, 1), part), "Far", "new")
            self.next_refused("new", ("free", part, part), "Far", "new")
        for part in NEAR_PARTS:
            self.next_stands("new", ("free", part, (0, 1)))
            self.next_stands("new", ("free", (0, 1), part))
            self.next_stands("new", ("free", part, part))

    def test_far_shares(self):
        for part in FAR_SHARES:
            self.next_refused("new", ("share", "a", "b", part), "Far", "new")
        for part in NEAR_SHARES:
            self.next_stands("new", ("share", "a", "b", part))

    def test_places_that_hang_on_others_have_no_bounds(self):
        row = [("a", ("free", (1, 1), (0, 1))), ("b", ("free", (10 ** 9 - 1, 1), (1, 10 ** 9 - 1))),
               ("n", ("next", "a", "b")), ("s", ("share", "a", "n", (999, 1)))]
        self.assertEqual(anew(row), model.tellings(row))
        self.assertGreater(anew(row)[3][1][0], 10 ** 11)

    def test_too_heavy(self):
        for making in [("middle", "h40", "a"), ("next", "a", "h40"), ("turn", "h40", "a"), ("line", "h40", "a"),
                       ("circle", "a", "h40"), ("share", "h40", "a", (1, 2)), ("along", "a", "g40"),
                       ("upright", "a", "g40"), ("meet", "l", "g40"), ("beside", "g40", "l"), ("square", "l", "g40"),
                       ("inline", "h32", "h8", "a"), ("foot", "h40", "l"), ("mirror", "a", "g40"),
                       ("cut", "g40", "k", 1), ("cut", "l", "k36", 1), ("foot", "h16", "g12"), ("mirror", "h32", "g12"),
                       ("cut", "r4", "r4", 1), ("cut", "k36", "k", 2), ("round", "h16", "a", "a", "h4"),
                       ("alike", "h8", "h8", "h4", "a"), ("middle", "h40", "h40")]:
            weight = model.weights(ROW + [("new", making)])[-1]
            if weight > 40:
                self.next_refused("new", making, "TooHeavy", "new")
            else:
                self.next_stands("new", making)

    def test_forty_stands_and_forty_one_does_not(self):
        for forty, more in [(("middle", "h32", "h8"), ("middle", "h40", "a")),
                            (("inline", "h32", "h4", "h4"), ("inline", "h32", "h8", "a")),
                            (("along", "h8", "g32"), ("along", "h8", "g33")),
                            (("meet", "g32", "g8"), ("meet", "g33", "g8")),
                            (("foot", "h16", "g12"), ("foot", "h17", "g12")),
                            (("mirror", "h16", "g12"), ("mirror", "h17", "g12")),
                            (("cut", "g12", "k16", 1), ("cut", "g12", "k17", 1)),
                            (("share", "h8", "h32", (1, 2)), ("share", "h40", "a", (1, 2))),
                            (("square", "g8", "g32"), ("square", "g8", "g33")),
                            (("circle", "h8", "h32"), ("circle", "a", "h40"))]:
            row = ROW + [("g32", ("line", "h16", "h16")), ("g33", ("along", "a", "g32")), ("g8", ("line", "h4", "h4")),
                         ("h17", ("middle", "h16", "a")), ("k16", ("circle", "h12", "h4")), ("k17", ("circle", "h16", "a"))]
            self.assertEqual(model.weights(row + [("new", forty)])[-1], 40)
            self.assertEqual(model.weights(row + [("new", more)])[-1], 41)
            self.assertEqual(anew(row + [("new", forty)]), model.tellings(row + [("new", forty)]))
            self.refused(row + [("new", more)], "TooHeavy", "new")

    def test_forty_stands_and_forty_two_or_forty_five_do_not(self):
        row = ROW + [("k4", ("circle", "h2", "c2")), ("k5", ("circle", "h4", "a"))]
        row[len(ROW):len(ROW)] = [("c2", ("middle", "a", "c"))]
        for forty, more in [(("round", "h16", "h2", "a", "b"), ("round", "h16", "h2", "h2", "a")),
                            (("alike", "a", "b", "h2", "h16"), ("alike", "a", "h2", "h2", "h16")),
                            (("cut", "k4", "r4", 1), ("cut", "k4", "k5", 1)),
                            (("cut", "k4", "k4", 2), ("cut", "k5", "k4", 2))]:
            self.assertEqual(model.weights(row + [("new", forty)])[-1], 40)
            self.assertIn(model.weights(row + [("new", more)])[-1], (42, 45))
            self.assertEqual(anew(row + [("new", forty)]), model.tellings(row + [("new", forty)]))
            self.refused(row + [("new", more)], "TooHeavy", "new")


class TwoAtOnce(Refused):
    """Of each two that are due at once the first of the order is told."""

    HEAVY = ("middle", "h40", "a")
    LATER = [("NoThing", ("middle", "a", "no")), ("WrongSort", ("middle", "a", "l")),
             ("Far", ("free", (10 ** 9, 1), (0, 1))), ("Far", ("share", "a", "b", (1, 1000))), ("TooHeavy", HEAVY)]

    def test_bad_name_goes_ahead_of_the_others(self):
        for other, making in self.LATER:
            for name in BAD_NAMES:
                self.next_refused(name, making, "BadName", name)

    def test_taken_goes_ahead_of_the_others(self):
        for other, making in self.LATER:
            for name in ("a", "l", "k", "claim", "h40"):
                self.next_refused(name, making, "Taken", name)

    def test_no_thing_goes_ahead_of_wrong_sort_wherever_they_stand(self):
        for making, name in [(("inline", "l", "a", "no"), "no"), (("inline", "no", "l", "a"), "no"),
                             (("round", "k", "claim", "l", "no"), "no"), (("round", "k", "nor", "l", "no"), "nor"),
                             (("middle", "l", "no"), "no"), (("middle", "no", "l"), "no"), (("foot", "l", "no"), "no"),
                             (("cut", "a", "no", 1), "no"), (("share", "l", "no", (1, 2)), "no")]:
            self.next_refused("new", making, "NoThing", name)

    def test_no_thing_goes_ahead_of_far(self):
        for part in FAR_SHARES:
            self.next_refused("new", ("share", "a", "no", part), "NoThing", "no")
            self.next_refused("new", ("share", "no", "a", part), "NoThing", "no")

    def test_no_thing_goes_ahead_of_too_heavy(self):
        self.next_refused("new", ("middle", "h40", "no"), "NoThing", "no")
        self.next_refused("new", ("inline", "h40", "h40", "no"), "NoThing", "no")
        self.next_refused("new", ("round", "h40", "no", "h40", "a"), "NoThing", "no")

    def test_wrong_sort_goes_ahead_of_far(self):
        for part in FAR_SHARES:
            self.next_refused("new", ("share", "a", "l", part), "WrongSort", "l")
            self.next_refused("new", ("share", "k", "a", part), "WrongSort", "k")

    def test_wrong_sort_goes_ahead_of_too_heavy(self):
        self.next_refused("new", ("inline", "h40", "h40", "l"), "WrongSort", "l")
        self.next_refused("new", ("middle", "h40", "g40"), "WrongSort", "g40")
        self.next_refused("new", ("cut", "h40", "k36", 1), "WrongSort", "h40")
        self.next_refused("new", ("cut", "k36", "h40", 1), "WrongSort", "h40")

    def test_far_goes_ahead_of_too_heavy(self):
        for part in FAR_SHARES:
            self.next_refused("new", ("share", "h40", "a", part), "Far", "new")

    def test_all_at_once(self):
        self.next_refused("A", ("share", "l", "no", (1000, 1)), "BadName", "A")
        self.next_refused("a", ("share", "l", "no", (1000, 1)), "Taken", "a")
        self.next_refused("new", ("share", "g40", "no", (1000, 1)), "NoThing", "no")
        self.next_refused("new", ("share", "h40", "g40", (1000, 1)), "WrongSort", "g40")


class FirstOfTheList(Refused):
    """The first thing that is to be refused, in the row of those ahead of it."""

    BAD = [("No", GOOD, "BadName", "No"), ("a", GOOD, "Taken", "a"), ("n1", ("middle", "a", "no"), "NoThing", "no"),
           ("n2", ("middle", "a", "l"), "WrongSort", "l"), ("n3", ("free", (0, 1), (10 ** 9, 1)), "Far", "n3"),
           ("n4", ("middle", "h40", "a"), "TooHeavy", "n4")]

    def test_of_each_two(self):
        for one in self.BAD:
            for other in self.BAD:
                row = ROW + [one[:2], ("fine", GOOD), other[:2]]
                self.refused(row, one[2], one[3])

    def test_what_stands_behind_it_does_not_count(self):
        for name, making, refusal, told in self.BAD:
            self.refused(ROW + [(name, making), ("no", GOOD), ("l2", GOOD)], refusal, told)

    def test_the_name_of_a_later_thing_is_not_taken_yet(self):
        self.refused([A, B, ("x", GOOD), ("y", GOOD), ("x", GOOD)], "Taken", "x")

    def test_behind_a_refusal_all_is_as_it_was(self):
        for name, making, refusal, told in self.BAD:
            before = anew(ROW)
            self.refused(ROW + [(name, making)], refusal, told)
            self.assertEqual(anew(ROW), before)


if __name__ == "__main__":
    unittest.main()
