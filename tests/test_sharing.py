"""What two books share: point 39."""

import random
import unittest

import chances
from bookcase import Booked, at, built, everything, free
from movebook.books import Book, begun
from movebook.errors import BookError
from movebook.sharing import shared


class Shared(Booked):
    def setUp(self):
        Booked.setUp(self)
        self.row = [("a", free(0, 0)), ("b", free(2, 0)), ("m", ("middle", "a", "b")), ("l", ("line", "a", "b")),
                    ("c", free(5, 5)), ("k", ("inline", "a", "b", "c"))]
        self.book = built(*self.row)

    def told(self, one, other, names):
        before = everything(one), everything(other)
        told = shared(one, other)
        self.assertEqual(told, names)
        self.assertIs(type(told), list)
        self.assertEqual((everything(one), everything(other)), before)

    def test_a_book_with_itself_its_twin_and_one_begun(self):
        names = ["a", "b", "m", "l", "c", "k"]
        for other in (self.book, self.book.twin(), begun(self.book), built(*self.row)):
            self.told(self.book, other, names)
            self.told(other, self.book, names)

    def test_with_an_empty_one(self):
        self.told(self.book, Book(), [])
        self.told(Book(), self.book, [])
        self.told(Book(), Book(), [])

    def test_the_first_ones_order(self):
        other = built(*[self.row[at] for at in (4, 1, 0, 5, 3, 2)])
        self.told(self.book, other, ["a", "b", "m", "l", "c", "k"])
        self.told(other, self.book, ["c", "b", "a", "k", "l", "m"])

    def test_equal_makings_alone_are_not_enough(self):
        other = self.book.twin()
        other.move("b", at(4, 0))
        # m hangs on the same names, but tells otherwise; l is the same line of the same points.
        self.told(self.book, other, ["a", "l", "c", "k"])
        self.told(other, self.book, ["a", "l", "c", "k"])

    def test_equal_tellings_alone_are_not_enough(self):
        other = self.book.twin()
        other.rehang("m", free(1, 0))
        self.told(self.book, other, ["a", "b", "l", "c", "k"])
        other.rehang("m", ("middle", "b", "a"))
        self.told(self.book, other, ["a", "b", "l", "c", "k"])
        other.rehang("m", ("middle", "a", "b"))
        self.told(self.book, other, ["a", "b", "m", "l", "c", "k"])

    def test_names_count(self):
        other = self.book.twin()
        other.rename("c", "d")
        self.told(self.book, other, ["a", "b", "m", "l"])
        other.rename("a", "e")
        self.told(self.book, other, ["b"])

    def test_gone_alike_and_gone_otherwise(self):
        one = built(("a", free(0, 0)), ("l", ("line", "a", "a")), ("m", ("line", "a", "a")), ("p", ("meet", "l", "m")))
        other = built(("a", free(0, 0)), ("m", ("line", "a", "a")), ("l", ("line", "a", "a")), ("p", ("meet", "l", "m")))
        self.told(one, other, ["a", "l", "m"])
        self.told(other, one, ["a", "m", "l"])

    def test_locks_groups_watchers_and_marks_do_not_count(self):
        other = self.book.twin()
        other.lock("a")
        other.group("g", ["a"])
        other.watch("w", None)
        other.mark("x")
        self.told(self.book, other, ["a", "b", "m", "l", "c", "k"])

    def test_a_new_list_each_time(self):
        told = shared(self.book, self.book)
        told.clear()
        self.told(self.book, self.book, ["a", "b", "m", "l", "c", "k"])

    def test_by_chance(self):
        for seed in range(8):
            chance = random.Random(seed)
            one, other = Book(), Book()
            for step in range(60):
                deed, *arguments = chances.deed_by(chance, [each[:2] for each in one.sheet()], 8)
                for book in (one, other):
                    if chance.random() < 0.8:
                        try:
                            getattr(book, deed)(*arguments)
                        except BookError:
                            pass
                due = [thing[0] for thing in one.sheet() if thing in other.sheet()]
                self.assertEqual(shared(one, other), due)


if __name__ == "__main__":
    unittest.main()
