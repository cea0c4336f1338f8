"""Deeds that answer nothing, and taking out: points 24, 25 and 29 to 33, each refusal alone and two at once."""

import unittest

from bookcase import Booked, asked, at, built, everything, free
from movebook.books import Book

BAD_NAMES = ["", "A", "1a", "a b", "a_b", "a" * 13, "-", "No", "a:b", "*"]
FAR = (10 ** 9, 1)
ROW = [("a", free(0, 0)), ("b", free(1, 0)), ("c", free(0, 1)), ("l", ("line", "a", "b")), ("k", ("circle", "a", "b")),
       ("claim", ("inline", "a", "b", "c")), ("h2", ("middle", "a", "b")), ("h4", ("middle", "h2", "h2")),
       ("h8", ("middle", "h4", "h4")), ("h16", ("middle", "h8", "h8")), ("h32", ("middle", "h16", "h16")),
       ("h40", ("middle", "h32", "h8"))]


class Put(Booked):
    def setUp(self):
        Booked.setUp(self)
        self.book = built(*ROW)

    def test_last_in_the_row(self):
        book = Book()
        for at_step, (name, making) in enumerate(ROW):
            self.answers(book, None, "put", name, making)
            self.assertEqual(book.row(), [one for one, each in ROW[:at_step + 1]])
            self.assertEqual((book.row()[-1], book.making(name)), (name, making))

    def test_words_of_the_page_are_names(self):
        book = Book()
        for name in ["free", "gone", "kept", "put", "line", "at", "always"]:
            self.answers(book, None, "put", name, free(len(book.row()), 0))
        self.answers(book, None, "put", "middle", ("middle", "free", "line"))
        self.assertEqual(book.telling("middle"), ("at", (2, 1), (0, 1)))

    def test_bad_name(self):
        for name in BAD_NAMES:
            self.refused(self.book, "BadName", name, "put", name, free(0, 0))
            self.refused(Book(), "BadName", name, "put", name, free(0, 0))

    def test_taken(self):
        for name, making in ROW:
            self.refused(self.book, "Taken", name, "put", name, making)

    def test_no_thing_with_the_first(self):
        self.refused(self.book, "NoThing", "no", "put", "x", ("middle", "a", "no"))
        self.refused(self.book, "NoThing", "nor", "put", "x", ("inline", "a", "nor", "no"))
        self.refused(self.book, "NoThing", "x", "put", "x", ("middle", "a", "x"))
        self.refused(self.book, "NoThing", "", "put", "x", ("middle", "a", ""))
        self.refused(Book(), "NoThing", "a", "put", "x", ("middle", "a", "b"))

    def test_wrong_sort_with_the_first(self):
        self.refused(self.book, "WrongSort", "l", "put", "x", ("middle", "a", "l"))
        self.refused(self.book, "WrongSort", "k", "put", "x", ("inline", "a", "k", "l"))
        self.refused(self.book, "WrongSort", "claim", "put", "x", ("line", "claim", "l"))
        self.refused(self.book, "WrongSort", "a", "put", "x", ("cut", "a", "l", 1))

    def test_far(self):
        for part in [FAR, (-10 ** 9, 1), (1, 10 ** 9)]:
            self.refused(self.book, "Far", "x", "put", "x", ("free", part, (0, 1)))
            self.refused(self.book, "Far", "x", "put", "x", ("free", (0, 1), part))
        for part in [(1000, 1), (-1000, 1), (1, 1000)]:
            self.refused(self.book, "Far", "x", "put", "x", ("share", "a", "b", part))
        self.answers(self.book, None, "put", "x", ("free", (10 ** 9 - 1, 1), (1 - 10 ** 9, 10 ** 9 - 2)))
        self.answers(self.book, None, "put", "y", ("share", "a", "b", (-999, 998)))

    def test_too_heavy(self):
        self.refused(self.book, "TooHeavy", "x", "put", "x", ("middle", "h40", "a"))
        self.refused(self.book, "TooHeavy", "x", "put", "x", ("round", "h16", "h4", "a", "b"))
        self.answers(self.book, None, "put", "x", ("round", "h16", "h2", "a", "b"))
        self.assertEqual(self.book.weight("x"), 40)

    def test_two_at_once(self):
        makings = {"NoThing": (("middle", "a", "no"), "no"), "WrongSort": (("middle", "a", "l"), "l"),
                   "Far": (("free", FAR, (0, 1)), "x"), "TooHeavy": (("middle", "h40", "a"), "x")}
        for making, told in makings.values():
            self.refused(self.book, "BadName", "X", "put", "X", making)
            self.refused(self.book, "Taken", "a", "put", "a", making)
        self.refused(self.book, "NoThing", "no", "put", "x", ("middle", "l", "no"))
        self.refused(self.book, "NoThing", "no", "put", "x", ("share", "a", "no", (1000, 1)))
        self.refused(self.book, "NoThing", "no", "put", "x", ("inline", "h40", "h40", "no"))
        self.refused(self.book, "WrongSort", "l", "put", "x", ("share", "a", "l", (1000, 1)))
        self.refused(self.book, "WrongSort", "l", "put", "x", ("inline", "h40", "h40", "l"))
        self.refused(self.book, "Far", "x", "put", "x", ("share", "h40", "a", (1000, 1)))


class Lock(Booked):
    def setUp(self):
        Booked.setUp(self)
        self.book = built(*ROW)

    def test_of_what_is_locked_and_of_what_is_not(self):
        self.answers(self.book, None, "unlock", "b")
        self.assertEqual(self.book.locked(), [])
        self.answers(self.book, None, "lock", "l")
        self.answers(self.book, None, "lock", "a")
        self.assertEqual(self.book.locked(), ["a", "l"])
        self.answers(self.book, None, "lock", "l")
        self.assertEqual(self.book.locked(), ["a", "l"])
        self.answers(self.book, None, "unlock", "a")
        self.assertEqual(self.book.locked(), ["l"])
        self.answers(self.book, None, "unlock", "a")
        self.assertEqual(self.book.locked(), ["l"])

    def test_no_thing(self):
        for name in ["no", "", "A"]:
            self.refused(self.book, "NoThing", name, "lock", name)
            self.refused(self.book, "NoThing", name, "unlock", name)

    def test_no_lock_hinders_rename_undo_again_and_back(self):
        book = built(("a", free(0, 0)), ("b", free(1, 0)), ("m", ("middle", "a", "b")))
        book.mark("here")
        book.move("a", at(4, 4))
        for name in ("a", "b", "m"):
            book.lock(name)
        book.rename("m", "n")
        self.assertEqual(book.locked(), ["a", "b", "n"])
        locked = asked(book)
        for step in range(5):
            book.undo()
        self.assertEqual(book.telling("m"), ("at", (1, 2), (0, 1)))
        for step in range(5):
            book.again()
        self.assertEqual(asked(book), locked)
        book.back("here")
        self.assertEqual(book.telling("a"), ("at", (0, 1), (0, 1)))

    def test_a_name_in_what_a_locked_thing_tells_may_change(self):
        book = built(("a", free(0, 0)), ("l", ("line", "a", "a")), ("u", ("upright", "a", "l")))
        book.lock("u")
        book.lock("l")
        self.answers(book, None, "rename", "l", "m")
        self.assertEqual(book.telling("u"), ("gone", "m", "same"))
        self.assertEqual(book.locked(), ["m", "u"])


class Groups(Booked):
    def setUp(self):
        Booked.setUp(self)
        self.book = built(*ROW)

    def test_a_set_of_things_in_the_rows_order(self):
        self.answers(self.book, None, "group", "g", ["l", "a", "c", "a", "l"])
        self.answers(self.book, None, "group", "empty", [])
        self.answers(self.book, None, "group", "a", ["a"])
        self.assertEqual(self.book.groups(), [("a", ("a",)), ("empty", ()), ("g", ("a", "c", "l"))])

    def test_set_anew_under_one_name(self):
        self.book.group("g", ["a", "b"])
        self.answers(self.book, None, "group", "g", ["c"])
        self.assertEqual(self.book.groups(), [("g", ("c",))])
        self.answers(self.book, None, "group", "g", [])
        self.assertEqual(self.book.groups(), [("g", ())])

    def test_sorted_as_python_sorts_texts(self):
        for name in ["b", "a10", "a9", "a", "ab", "z", "a1"]:
            self.book.group(name, [])
            self.book.watch(name, [])
        self.assertEqual([name for name, names in self.book.groups()], ["a", "a1", "a10", "a9", "ab", "b", "z"])
        self.assertEqual([name for name, names in self.book.watchers()], ["a", "a1", "a10", "a9", "ab", "b", "z"])

    def test_refused(self):
        for deed in ("group", "watch"):
            for name in BAD_NAMES:
                self.refused(self.book, "BadName", name, deed, name, ["a"])
                self.refused(self.book, "BadName", name, deed, name, [])
                self.refused(self.book, "BadName", name, deed, name, ["no"])
            self.refused(self.book, "NoThing", "no", deed, "g", ["a", "no", "nor"])
            self.refused(self.book, "NoThing", "nor", deed, "g", ["nor", "a", "no"])
            self.refused(self.book, "NoThing", "g", deed, "g", ["g"])
            self.refused(self.book, "NoThing", "", deed, "g", ["a", ""])
        self.refused(self.book, "BadName", "W", "watch", "W", None)

    def test_a_refused_set_leaves_the_old_one(self):
        self.book.group("g", ["a"])
        self.book.watch("w", ["a"])
        self.refused(self.book, "NoThing", "no", "group", "g", ["no"])
        self.refused(self.book, "NoThing", "no", "watch", "w", ["no"])
        self.assertEqual(self.book.groups(), [("g", ("a",))])

    def test_ungroup(self):
        self.book.group("g", ["a"])
        self.book.watch("w", None)
        for name in ("a", "no", "w", "", "G"):
            self.refused(self.book, "NoGroup", name, "ungroup", name)
        self.answers(self.book, None, "ungroup", "g")
        self.assertEqual((self.book.groups(), "a" in self.book.row()), ([], True))
        self.refused(self.book, "NoGroup", "g", "ungroup", "g")

    def test_names_stand_apart(self):
        self.book.group("a", ["b"])
        self.book.watch("a", ["c"])
        self.book.mark("a")
        self.assertEqual((self.book.groups(), self.book.watchers(), self.book.marks()),
                         ([("a", ("b",))], [("a", ("c",))], [("a", 14)]))
        self.book.ungroup("a")
        self.book.unwatch("a")
        self.assertIn("a", self.book.row())
        self.assertEqual(self.book.marks(), [("a", 14)])


class Take(Booked):
    def setUp(self):
        Booked.setUp(self)
        self.book = built(*ROW)
        self.book.group("g", ["a", "l", "claim"])
        self.book.group("h", ["claim"])
        self.book.watch("w", ["claim", "h2"])
        self.book.watch("v", ["claim"])
        self.book.watch("all", None)

    def test_alone(self):
        self.answers(self.book, ["claim"], "take", "claim", False)
        self.assertNotIn("claim", self.book.row())
        self.assertEqual(self.book.groups(), [("g", ("a", "l")), ("h", ())])
        self.assertEqual(self.book.watchers(), [("all", None), ("v", ()), ("w", ("h2",))])
        self.refused(self.book, "NoThing", "claim", "take", "claim", False)

    def test_whole_of_one_that_nothing_hangs_on(self):
        self.answers(self.book, ["k"], "take", "k", True)

    def test_whole(self):
        self.answers(self.book, ["h4", "h8", "h16", "h32", "h40"], "take", "h4", True)
        self.assertEqual(self.book.row(), ["a", "b", "c", "l", "k", "claim", "h2"])
        self.answers(self.book, ["a", "l", "k", "claim", "h2"], "take", "a", True)
        self.assertEqual(self.book.row(), ["b", "c"])
        self.assertEqual(self.book.groups(), [("g", ()), ("h", ())])
        self.assertEqual(self.book.watchers(), [("all", None), ("v", ()), ("w", ())])

    def test_hung_with_all_that_hangs_on_it(self):
        self.refused(self.book, "Hung", ["claim"], "take", "c", False)
        self.refused(self.book, "Hung", ["h40"], "take", "h32", False)
        self.refused(self.book, "Hung", ["l", "k", "claim", "h2", "h4", "h8", "h16", "h32", "h40"], "take", "b", False)

    def test_what_goes_is_no_longer_locked(self):
        self.book.lock("claim")
        self.book.unlock("claim")
        self.book.lock("b")
        self.book.take("claim", False)
        self.book.put("claim", free(0, 0))
        self.assertEqual(self.book.locked(), ["b"])
        self.assertEqual(self.book.groups(), [("g", ("a", "l")), ("h", ())])

    def test_locked_with_the_first_in_the_row(self):
        self.book.lock("h32")
        self.book.lock("h8")
        self.refused(self.book, "Locked", "h8", "take", "h4", True)
        self.refused(self.book, "Locked", "h8", "take", "a", True)
        self.refused(self.book, "Locked", "h32", "take", "h16", True)
        self.book.lock("claim")
        self.refused(self.book, "Locked", "claim", "take", "claim", False)
        self.refused(self.book, "Locked", "claim", "take", "claim", True)
        self.refused(self.book, "Locked", "claim", "take", "a", True)
        self.answers(self.book, ["k"], "take", "k", False)

    def test_two_at_once(self):
        self.book.lock("h8")
        self.book.lock("h4")
        self.refused(self.book, "Hung", ["h8", "h16", "h32", "h40"], "take", "h4", False)
        for whole in (True, False):
            self.refused(self.book, "NoThing", "no", "take", "no", whole)
            self.refused(self.book, "NoThing", "", "take", "", whole)

    def test_what_was_heard_stays(self):
        self.book.move("a", at(2, -1))
        heard = self.book.heard("all")
        self.answers(self.book, ["claim"], "take", "claim", False)
        self.assertEqual(self.book.heard("all"), heard)
        self.assertIn("claim", heard[0])

    def test_a_watcher_of_all_watches_what_is_put_later(self):
        self.book.take("a", True)
        self.book.put("a", free(0, 0))
        self.book.move("a", at(9, 9))
        self.assertEqual(self.book.heard("all"), [("a",)])
        self.assertEqual(self.book.heard("w"), [])


class Rename(Booked):
    def setUp(self):
        Booked.setUp(self)
        self.book = built(("a", free(0, 0)), ("b", free(0, 0)), ("l", ("line", "a", "b")), ("m", ("middle", "a", "a")),
                          ("f", ("foot", "m", "l")), ("c", ("round", "a", "b", "a", "m")), ("s", ("share", "a", "m", (1, 2))))
        self.book.group("g", ["a", "l"])
        self.book.group("a", ["a"])
        self.book.watch("w", ["l", "a", "c"])
        self.book.watch("a", None)
        self.book.lock("a")
        self.book.lock("l")

    def test_in_the_row_and_in_all_that_names_it(self):
        self.answers(self.book, None, "rename", "a", "zz")
        self.assertEqual(self.book.row(), ["zz", "b", "l", "m", "f", "c", "s"])
        self.assertEqual([self.book.making(name) for name in self.book.row()],
                         [free(0, 0), free(0, 0), ("line", "zz", "b"), ("middle", "zz", "zz"), ("foot", "m", "l"),
                          ("round", "zz", "b", "zz", "m"), ("share", "zz", "m", (1, 2))])
        self.assertEqual(self.book.groups(), [("a", ("zz",)), ("g", ("zz", "l"))])
        self.assertEqual(self.book.watchers(), [("a", None), ("w", ("zz", "l", "c"))])
        self.assertEqual(self.book.locked(), ["zz", "l"])

    def test_in_tellings_of_gone_things(self):
        self.assertEqual(self.book.telling("f"), ("gone", "l", "same"))
        self.answers(self.book, None, "rename", "l", "same")
        self.assertEqual(self.book.telling("same"), ("gone", "same", "same"))
        self.assertEqual(self.book.telling("f"), ("gone", "same", "same"))
        self.answers(self.book, None, "rename", "same", "gone")
        self.assertEqual(self.book.telling("f"), ("gone", "gone", "same"))
        self.answers(self.book, None, "rename", "gone", "x")
        self.assertEqual(self.book.telling("f"), ("gone", "x", "same"))

    def test_words_of_makings_and_tellings_are_no_names(self):
        book = built(("line", free(0, 0)), ("at", free(1, 0)), ("same", ("line", "line", "at")),
                     ("free", ("middle", "line", "at")), ("middle", ("line", "free", "free")))
        for name in ["line", "at", "same", "free", "middle"]:
            self.answers(book, None, "rename", name, "x" + name)
        self.assertEqual(book.sheet(), [
            ("xline", free(0, 0), ("at", (0, 1), (0, 1))), ("xat", free(1, 0), ("at", (1, 1), (0, 1))),
            ("xsame", ("line", "xline", "xat"), ("line", 0, 1, 0)),
            ("xfree", ("middle", "xline", "xat"), ("at", (1, 2), (0, 1))),
            ("xmiddle", ("line", "xfree", "xfree"), ("gone", "xmiddle", "same"))])

    def test_what_was_heard_stays(self):
        self.book.unlock("a")
        self.book.unlock("l")
        self.book.move("a", at(1, 1))
        heard = self.book.heard("w")
        self.assertEqual(heard, [("a", "l")])
        self.answers(self.book, None, "rename", "a", "n")
        self.assertEqual(self.book.heard("w"), heard)
        self.book.move("n", at(2, 3))
        self.assertEqual(self.book.heard("w")[1][:2], ("n", "l"))

    def test_the_old_name_is_free_again(self):
        self.book.rename("a", "n")
        self.answers(self.book, None, "put", "a", free(7, 7))
        self.assertEqual(self.book.groups(), [("a", ("n",)), ("g", ("n", "l"))])
        self.assertEqual(self.book.locked(), ["n", "l"])
        self.answers(self.book, None, "rename", "s", "t")
        self.answers(self.book, None, "rename", "t", "s")

    def test_refused(self):
        for name in ["no", "", "g", "w"]:
            self.refused(self.book, "NoThing", name, "rename", name, "fine")
        for other in BAD_NAMES:
            self.refused(self.book, "BadName", other, "rename", "b", other)
        for other in self.book.row():
            self.refused(self.book, "Taken", other, "rename", "b", other)
            self.refused(self.book, "Taken", other, "rename", "l", other)
        self.answers(self.book, None, "rename", "b", "g")

    def test_two_at_once(self):
        self.refused(self.book, "NoThing", "no", "rename", "no", "No")
        self.refused(self.book, "NoThing", "no", "rename", "no", "a")
        self.refused(self.book, "NoThing", "no", "rename", "no", "no")
        self.refused(self.book, "NoThing", "", "rename", "", "")


class Refused(Booked):
    def test_a_refused_deed_cuts_off_nothing(self):
        book = built(*ROW)
        book.group("g", ["a"])
        book.watch("w", None)
        book.lock("a")
        book.mark("end")
        for step in range(3):
            book.undo()
        for deed, *arguments in [("put", "a", free(0, 0)), ("move", "no", at(0, 0)), ("shift", "no", at(0, 0)),
                                 ("rehang", "a", ("line", "a", "b")), ("rename", "a", "b"), ("take", "a", False),
                                 ("lock", "no"), ("unlock", "no"), ("group", "g", ["no"]), ("ungroup", "no"),
                                 ("watch", "w", ["no"]), ("unwatch", "no"), ("hush", "no"), ("back", "no"), ("mark", "No")]:
            before = everything(book)
            with self.assertRaises(ValueError):
                getattr(book, deed)(*arguments)
            self.assertEqual(everything(book), before)
            self.assertEqual((book.steps(), book.marks()), ((12, 3), [("end", 15)]))
        book.back("end")
        self.assertEqual(book.locked(), ["a"])


if __name__ == "__main__":
    unittest.main()
