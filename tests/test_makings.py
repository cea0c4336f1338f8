"""Makings: points 15 and 16, and point 2 for the lists that are told."""

import unittest

from limits import Limited
from model import MADE, NAMES
from movebook.makings import grounds, sort_of

# Each making of point 15, its sort, and its grounds.
MAKINGS = [
    (("free", (0, 1), (-1, 2)), "point", []),
    (("middle", "p", "q"), "point", ["p", "q"]),
    (("next", "p", "q"), "point", ["p", "q"]),
    (("turn", "p", "q"), "point", ["p", "q"]),
    (("share", "p", "q", (-1, 3)), "point", ["p", "q"]),
    (("foot", "p", "l"), "point", ["p", "l"]),
    (("mirror", "p", "l"), "point", ["p", "l"]),
    (("meet", "l", "m"), "point", ["l", "m"]),
    (("cut", "u", "v", 1), "point", ["u", "v"]),
    (("cut", "u", "v", 2), "point", ["u", "v"]),
    (("line", "p", "q"), "line", ["p", "q"]),
    (("along", "p", "l"), "line", ["p", "l"]),
    (("upright", "p", "l"), "line", ["p", "l"]),
    (("circle", "p", "q"), "circle", ["p", "q"]),
    (("inline", "p", "q", "r"), "claim", ["p", "q", "r"]),
    (("round", "p", "q", "r", "s"), "claim", ["p", "q", "r", "s"]),
    (("alike", "p", "q", "r", "s"), "claim", ["p", "q", "r", "s"]),
    (("beside", "l", "m"), "claim", ["l", "m"]),
    (("square", "l", "m"), "claim", ["l", "m"]),
]


def with_names(making, names):
    """The making with other names, one after another, for those that stand there."""
    names = list(names)
    return (making[0], *(names.pop(0) if isinstance(part, str) else part for part in making[1:]))


class Makings(Limited):
    def test_all_are_here(self):
        self.assertEqual({making[0] for making, sort, on in MAKINGS}, set(MADE))

    def test_sorts(self):
        for making, sort, on in MAKINGS:
            self.assertEqual(sort_of(making), sort)
            self.assertIs(type(sort_of(making)), str)

    def test_grounds(self):
        for making, sort, on in MAKINGS:
            self.assertEqual(grounds(making), on)
            self.assertIs(type(grounds(making)), list)

    def test_in_their_order_there(self):
        for making, sort, on in MAKINGS:
            names = ["z", "m", "a", "k"][:len(on)]
            self.assertEqual(grounds(with_names(making, names)), names)

    def test_one_name_several_times(self):
        for making, sort, on in MAKINGS:
            for names in (["a"] * len(on), (["a", "b"] * 2)[:len(on)], ["b"] + ["a"] * (len(on) - 1)):
                many = names[:len(on)]
                again = with_names(making, many)
                self.assertEqual(grounds(again), many)
                self.assertEqual(sort_of(again), sort)

    def test_names_that_are_words_of_the_page(self):
        for making, sort, on in MAKINGS:
            for at in range(len(NAMES)):
                names = (NAMES[at:] + NAMES[:at])[:len(on)]
                again = with_names(making, names)
                self.assertEqual(grounds(again), names)
                self.assertEqual(sort_of(again), sort)

    def test_free_points_far_and_near_have_no_grounds(self):
        for x, y in [((0, 1), (0, 1)), ((10 ** 60 - 1, 1), (1, 10 ** 60 - 1)), ((-1, 2), (-3, 4))]:
            self.assertEqual(grounds(("free", x, y)), [])
            self.assertEqual(sort_of(("free", x, y)), "point")

    def test_the_told_list_is_the_askers_own(self):
        for making, sort, on in MAKINGS:
            told = grounds(making)
            told.append("more")
            self.assertEqual(grounds(making), on)
            told.clear()
            self.assertEqual(grounds(making), on)
            self.assertEqual(sort_of(making), sort)


if __name__ == "__main__":
    unittest.main()
