"""The line of states: undo, again, steps, marks, twins and books begun from another one: points 35 to 38."""

import unittest

from bookcase import DEEDS, Booked, asked, at, built, everything, free, line_of
from movebook.books import Book, begun

BAD_NAMES = ["", "A", "1a", "a b", "a" * 13, "-"]


def some_book():
    """A book with all that a state has, nine states behind the first."""
    book = built(("a", free(0, 0)), ("b", free(2, 0)), ("m", ("middle", "a", "b")))
    book.watch("w", None)
    book.group("g", ["a"])
    book.mark("early")
    book.lock("b")
    book.move("a", at(1, 1))
    book.shift("g", at(1, 1))
    book.mark("late")
    book.rename("m", "n")
    return book


class UndoAndAgain(Booked):
    def test_one_state_back_and_one_on(self):
        book = some_book()
        states = line_of(book)
        self.assertEqual((len(states), book.steps()), (10, (9, 0)))
        for number in range(8, -1, -1):
            self.assertIsNone(book.undo())
            self.assertEqual((asked(book), book.steps()), (states[number], (number, 9 - number)))
        self.refused(book, "NoStep", None, "undo")
        for number in range(1, 10):
            self.assertIsNone(book.again())
            self.assertEqual((asked(book), book.steps()), (states[number], (number, 9 - number)))
        self.refused(book, "NoStep", None, "again")

    def test_no_step_in_a_new_book(self):
        for deed in ("undo", "again"):
            self.refused(Book(), "NoStep", None, deed)
        self.assertEqual(Book().steps(), (0, 0))

    def test_each_deed_is_one_state(self):
        arguments = {"put": ("z", free(5, 5)), "move": ("a", at(3, 3)), "shift": ("g", at(1, 1)),
                     "rehang": ("n", ("next", "a", "b")), "rename": ("a", "z"), "take": ("n", False), "lock": ("a",),
                     "unlock": ("b",), "group": ("g", ["b"]), "ungroup": ("g",), "watch": ("w", ["a"]), "unwatch": ("w",),
                     "hush": ("w",)}
        self.assertEqual(sorted(arguments), sorted(DEEDS))
        for deed in DEEDS:
            book = some_book()
            before, steps = asked(book), book.steps()
            getattr(book, deed)(*arguments[deed])
            after = asked(book)
            self.assertNotEqual(after, before)
            self.assertEqual(book.steps(), (steps[0] + 1, 0))
            book.undo()
            self.assertEqual(asked(book), before, deed)
            book.again()
            self.assertEqual(asked(book), after, deed)

    def test_deeds_that_change_nothing_are_states_too(self):
        book = some_book()
        book.hush("w")
        for deed, *arguments in [("move", "a", at(2, 2)), ("shift", "g", at(0, 0)), ("lock", "b"), ("unlock", "a"),
                                 ("group", "g", ["a"]), ("watch", "w", None), ("hush", "w"), ("rehang", "n", book.making("n"))]:
            before, steps = asked(book), book.steps()
            getattr(book, deed)(*arguments)
            self.assertEqual((asked(book), book.steps()), (before, (steps[0] + 1, 0)), deed)
            book.undo()
            self.assertEqual((asked(book), book.steps()), (before, (steps[0], 1)), deed)
            book.again()

    def test_a_deed_behind_undo_cuts_off_the_later_states(self):
        for deed, *arguments in [("put", "z", free(5, 5)), ("lock", "b"), ("move", "a", at(0, 0)), ("hush", "w")]:
            book = some_book()
            states = line_of(book)
            for step in range(4):
                book.undo()
            getattr(book, deed)(*arguments)
            self.assertEqual(book.steps(), (6, 0))
            self.refused(book, "NoStep", None, "again")
            self.assertEqual(line_of(book)[:6], states[:6])

    def test_undo_and_again_tell_watchers_nothing(self):
        book = some_book()
        heard = book.heard("w")
        self.assertEqual(heard, [("a", "m"), ("a", "m")])
        for step in range(3):
            book.undo()
        self.assertEqual(book.heard("w"), [])
        for step in range(3):
            book.again()
        self.assertEqual(book.heard("w"), heard)


class Marks(Booked):
    def test_mark_and_back(self):
        book = some_book()
        states = line_of(book)
        self.assertEqual(book.marks(), [("early", 5), ("late", 8)])
        self.assertIsNone(book.back("early"))
        self.assertEqual((asked(book), book.steps()), (states[5], (5, 4)))
        self.assertIsNone(book.back("late"))
        self.assertEqual((asked(book), book.steps()), (states[8], (8, 1)))
        book.back("late")
        self.assertEqual((asked(book), book.steps()), (states[8], (8, 1)))
        book.again()
        self.assertEqual(asked(book), states[9])
        self.assertEqual(book.marks(), [("early", 5), ("late", 8)])

    def test_to_mark_is_no_deed(self):
        book = some_book()
        book.undo()
        before, steps = asked(book), book.steps()
        self.assertIsNone(book.mark("here"))
        self.assertEqual((asked(book), book.steps()), (before, steps))
        book.again()
        self.assertEqual(book.steps(), (9, 0))

    def test_set_anew_it_marks_the_new_state_alone(self):
        book = some_book()
        book.mark("early")
        self.assertEqual(book.marks(), [("late", 8), ("early", 9)])
        book.back("late")
        book.back("early")
        self.assertEqual(book.steps(), (9, 0))
        book.undo()
        book.mark("early")
        self.assertEqual(book.marks(), [("early", 8), ("late", 8)])

    def test_sorted_by_the_numbers_then_by_the_names(self):
        book = some_book()
        for name in ("z", "b", "a10", "a9"):
            book.mark(name)
        for step in range(8):
            book.undo()
        book.mark("y")
        self.assertEqual(book.marks(), [("y", 1), ("early", 5), ("late", 8), ("a10", 9), ("a9", 9), ("b", 9), ("z", 9)])

    def test_marks_of_states_that_are_cut_off_go(self):
        book = some_book()
        book.mark("end")
        book.back("late")
        book.mark("late2")
        book.undo()
        self.assertEqual(book.marks(), [("early", 5), ("late", 8), ("late2", 8), ("end", 9)])
        book.lock("b")
        self.assertEqual(book.marks(), [("early", 5)])
        for name in ("late", "late2", "end"):
            self.refused(book, "NoMark", name, "back", name)

    def test_the_mark_where_the_book_stands_stays(self):
        book = some_book()
        book.back("early")
        book.lock("b")
        self.assertEqual(book.marks(), [("early", 5)])
        book.back("early")
        self.assertEqual(book.steps(), (5, 1))

    def test_the_first_state_may_be_marked(self):
        book = Book()
        book.mark("start")
        book.put("a", free(0, 0))
        book.back("start")
        self.assertEqual((book.row(), book.steps(), book.marks()), ([], (0, 1), [("start", 0)]))

    def test_refused(self):
        book = some_book()
        book.undo()
        for name in BAD_NAMES:
            self.refused(book, "BadName", name, "mark", name)
            self.refused(book, "NoMark", name, "back", name)
        for name in ("no", "a", "w", "g"):
            self.refused(book, "NoMark", name, "back", name)

    def test_marks_stay_where_things_are_renamed_or_taken(self):
        book = some_book()
        book.mark("a")
        book.rename("a", "q")
        book.unlock("b")
        book.take("q", True)
        self.assertEqual(book.marks(), [("early", 5), ("late", 8), ("a", 9)])
        book.undo()
        self.assertEqual(book.marks(), [("early", 5), ("late", 8), ("a", 9)])


def shaken(book):
    """Does many things to a book."""
    book.mark("shaken")
    book.undo()
    book.undo()
    book.mark("late")
    book.move("a", at(9, 9))
    book.take("m", False)
    book.put("x", free(3, 3))
    book.group("g", ["x"])
    book.watch("w", ["x"])
    book.unlock("b")
    book.rename("b", "y")
    book.hush("w")
    book.mark("more")


class Twins(Booked):
    def each_place(self):
        """The book at the end, in the middle and at the beginning of its line."""
        for back in (0, 2, 4, 9):
            book = some_book()
            for step in range(back):
                book.undo()
            yield book

    def test_a_twin_answers_alike(self):
        for book in self.each_place():
            twin = book.twin()
            self.assertIs(type(twin), Book)
            self.assertIsNot(twin, book)
            self.assertEqual(everything(twin), everything(book))

    def test_what_is_done_to_either_changes_nothing_of_the_other(self):
        book = some_book()
        twin = book.twin()
        before = everything(book)
        shaken(twin)
        self.assertEqual(everything(book), before)
        twin = book.twin()
        shaken(book)
        self.assertEqual(everything(twin), before)

    def test_in_the_middle_of_the_line(self):
        for book in self.each_place():
            twin, before = book.twin(), everything(book)
            while twin.steps()[1]:
                twin.again()
            while twin.steps()[0]:
                twin.undo()
            twin.mark("x")
            self.assertEqual(everything(book), before)
            twin.put("x", free(4, 4))
            self.assertEqual(twin.steps(), (1, 0))
            self.assertEqual(everything(book), before)

    def test_nested_twins(self):
        book = some_book()
        first = book.twin()
        second = first.twin()
        third = begun(second)
        before = [everything(one) for one in (book, first, second, third)]
        shaken(first)
        self.assertEqual([everything(one) for one in (book, second, third)], [before[0], before[2], before[3]])
        fourth = first.twin()
        self.assertEqual(everything(fourth), everything(first))
        kept = everything(first)
        fourth.back("early")
        fourth.lock("b")
        self.assertEqual(everything(first), kept)
        self.assertEqual(everything(book), before[0])

    def test_a_book_begun(self):
        for book in self.each_place():
            before = everything(book)
            other = begun(book)
            self.assertIs(type(other), Book)
            self.assertEqual((asked(other), other.steps(), other.marks()), (asked(book), (0, 0), []))
            for deed in ("undo", "again"):
                self.refused(other, "NoStep", None, deed)
            self.refused(other, "NoMark", "early", "back", "early")
            other.put("x", free(8, 8))
            self.assertEqual(other.steps(), (1, 0))
            other.undo()
            self.assertEqual(asked(other), before[0])
            self.assertEqual(everything(book), before)

    def test_what_its_watchers_heard_begins_with_it(self):
        book = some_book()
        other = begun(book)
        self.assertEqual(other.heard("w"), [("a", "m"), ("a", "m")])
        other.move("a", at(7, 7))
        self.assertEqual((len(other.heard("w")), len(book.heard("w"))), (3, 2))
        before = everything(other)
        shaken(book)
        self.assertEqual(everything(other), before)

    def test_twins_of_empty_books(self):
        for other in (Book().twin(), begun(Book())):
            self.assertEqual(everything(other), everything(Book()))
            other.put("a", free(0, 0))
            self.assertEqual(other.row(), ["a"])


if __name__ == "__main__":
    unittest.main()
