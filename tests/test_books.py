"""Books over long lines of deeds: points 3, 24, 35 and 38 held against a second book of plain words."""

import random
import unittest
from collections import Counter

import chances
import model
from bookcase import Booked, asked, at, built, everything, free, refusal_of
from bookmodel import ModelBook, Refused
from movebook.books import Book, begun
from movebook.errors import BookError


def outcome(book, deed, arguments):
    """What a deed answers, or how it is refused."""
    try:
        return ("done", getattr(book, deed)(*arguments))
    except BookError as error:
        return ("refused", *refusal_of(error))
    except Refused as error:
        return ("refused", error.word, error.told)


class AgainstTheModel(Booked):
    def pair_alike(self, book, plain):
        self.assertEqual(asked(book), asked(plain))
        self.assertEqual((book.steps(), book.marks()), (plain.steps(), plain.marks()))

    def run_through(self, seed, deeds, many):
        """Both books do the same; counts how each deed ended."""
        chance = random.Random(seed)
        book, plain, ends = Book(), ModelBook(), Counter()
        for step in range(deeds):
            deed, *arguments = chances.deed_by(chance, plain.now.row, many)
            told, due = outcome(book, deed, arguments), outcome(plain, deed, arguments)
            self.assertEqual(told, due, (seed, step, deed, arguments))
            self.pair_alike(book, plain)
            self.assert_as_new(book)
            ends[deed, due[1] if due[0] == "refused" else bool(due[1])] += 1
        return ends

    def test_deeds_by_chance(self):
        ends = Counter()
        for seed in range(12):
            ends += self.run_through(seed, 120, 9)
        # What was looked at holds the ends that matter, or it would tell little.
        for deed, end in [("move", True), ("move", False), ("move", "Locked"), ("move", "NotFree"), ("move", "Far"),
                          ("shift", True), ("shift", False), ("shift", "Locked"), ("shift", "NoGroup"), ("shift", "Far"),
                          ("rehang", True), ("rehang", False), ("rehang", "Ring"), ("rehang", "WrongSort"),
                          ("rehang", "Locked"), ("take", True), ("take", "Hung"), ("rename", False), ("rename", "Taken"),
                          ("rename", "BadName"), ("put", False), ("put", "Taken"), ("put", "NoThing"), ("put", "WrongSort"),
                          ("put", "TooHeavy"), ("undo", False), ("again", False), ("again", "NoStep"), ("back", False),
                          ("back", "NoMark"), ("watch", False), ("group", False), ("hush", False)]:
            self.assertGreater(ends[deed, end], 0, (deed, end))

    def test_some_larger_books(self):
        for seed in (101, 102):
            self.run_through(seed, 150, 18)

    def test_twins_and_books_begun_in_between(self):
        for seed in range(200, 206):
            chance = random.Random(seed)
            pairs = [(Book(), ModelBook())]
            for step in range(120):
                book, plain = chance.choice(pairs)
                kind = chance.random()
                if kind < 0.06 and len(pairs) < 5:
                    pairs.append((book.twin(), plain.twin()))
                elif kind < 0.1 and len(pairs) < 5:
                    pairs.append((begun(book), plain.begun()))
                else:
                    deed, *arguments = chances.deed_by(chance, plain.now.row, 7)
                    self.assertEqual(outcome(book, deed, arguments), outcome(plain, deed, arguments), (seed, step))
                for one, other in pairs:
                    self.pair_alike(one, other)

    def test_undo_and_again_lead_through_the_very_same_states(self):
        for seed in range(300, 304):
            chance = random.Random(seed)
            book, states = Book(), []
            states.append(asked(book))
            while len(states) < 60:
                deed, *arguments = chances.deed_by(chance, [one[:2] for one in book.sheet()], 8)
                if deed not in ("undo", "again", "back") and outcome(book, deed, arguments)[0] == "done" and deed != "mark":
                    states.append(asked(book))
            for way in range(3):
                for state in states[-2::-1]:
                    book.undo()
                    self.assertEqual(asked(book), state)
                for state in states[1:]:
                    book.again()
                    self.assertEqual(asked(book), state)
            place = len(states) - 1
            for step in range(80):
                place = max(0, min(len(states) - 1, place + chance.choice((-1, 1))))
                while book.steps()[0] != place:
                    book.undo() if book.steps()[0] > place else book.again()
                self.assertEqual(asked(book), states[place])


class Empty(Booked):
    def test_a_new_book_has_nothing(self):
        book = Book()
        self.assertEqual((book.row(), book.sheet(), book.locked(), book.groups(), book.watchers(), book.marks()),
                         ([], [], [], [], [], []))
        self.assertEqual(book.steps(), (0, 0))

    def test_each_new_book_is_a_new_one(self):
        one, other = Book(), Book()
        one.put("a", free(0, 0))
        self.assertEqual((one.row(), other.row()), (["a"], []))

    def test_what_is_asked_of_no_thing_is_refused(self):
        for book in (Book(), built(("a", free(0, 0)))):
            for question in ("making", "telling", "weight", "beneath", "above", "ever"):
                for name in ("b", "", "A", "free", "a" * 13):
                    self.refused(book, "NoThing", name, question, name)
            self.refused(book, "NoWatcher", "a", "heard", "a")


class Questions(Booked):
    def setUp(self):
        Booked.setUp(self)
        self.book = built(("a", free(0, 0)), ("b", free(3, 4)), ("l", ("line", "a", "b")), ("k", ("circle", "a", "b")),
                          ("o", ("cut", "l", "k", 2)), ("n", ("line", "b", "b")), ("c", ("beside", "l", "n")))

    def test_what_is_asked(self):
        book = self.book
        self.assertEqual(book.row(), ["a", "b", "l", "k", "o", "n", "c"])
        self.assertEqual(book.making("o"), ("cut", "l", "k", 2))
        self.assertEqual(book.telling("o"), ("at", (3, 1), (4, 1)))
        self.assertEqual(book.telling("k"), ("circle", (0, 1), (0, 1), (25, 1)))
        self.assertEqual(book.telling("c"), ("gone", "n", "same"))
        self.assertEqual(book.sheet()[2], ("l", ("line", "a", "b"), ("line", 4, -3, 0)))
        self.assertEqual([book.weight(name) for name in book.row()], [1, 1, 2, 2, 6, 2, 4])
        self.assertEqual(book.beneath("o"), ["a", "b", "l", "k"])
        self.assertEqual(book.above("b"), ["l", "k", "o", "n", "c"])
        self.assertEqual((book.beneath("a"), book.above("c")), ([], []))
        self.assertEqual(book.ever("c"), ("never", []))

    def test_what_only_asks_changes_nothing(self):
        before = everything(self.book)
        for turn in range(2):
            asked(self.book)
            self.book.ever("c")
            self.book.steps()
            self.book.marks()
            self.book.twin()
            begun(self.book)
        self.assertEqual(everything(self.book), before)


class NewLists(Booked):
    """Point 2: each list that is told is the asker's own, and lists that are handed in stay theirs."""

    def setUp(self):
        Booked.setUp(self)
        book = built(("a", free(0, 0)), ("b", free(3, 4)), ("m", ("middle", "a", "b")), ("c", ("inline", "a", "b", "m")))
        book.lock("c")
        book.group("g", ["a", "b"])
        book.watch("w", ["m", "a"])
        book.watch("v", None)
        book.mark("start")
        book.move("a", at(1, 1))
        self.book = book

    def test_told_lists_are_new(self):
        book = self.book
        for question in [book.row, book.sheet, book.locked, book.groups, book.watchers, book.marks,
                         lambda: book.heard("w"), lambda: book.beneath("m"), lambda: book.above("a"),
                         lambda: book.ever("c")[1]]:
            before = everything(book)
            told = question()
            kept = list(told)
            self.assertIs(type(told), list)
            self.assertTrue(told)
            told.append("more")
            told[0] = "other"
            self.assertEqual(question(), kept)
            told.clear()
            self.assertEqual(question(), kept)
            self.assertEqual(everything(book), before)

    def test_what_is_asked_is_not_changed_later(self):
        book = self.book
        told = [book.row(), book.sheet(), book.locked(), book.groups(), book.watchers(), book.marks(), book.heard("w"),
                book.above("a")]
        kept = [list(one) for one in told]
        book.unlock("c")
        book.move("b", at(7, 9))
        book.take("m", True)
        book.rename("a", "z")
        book.ungroup("g")
        book.mark("now")
        book.back("start")
        self.assertEqual(told, kept)

    def test_answers_of_deeds_are_new(self):
        for deed, *arguments in [("move", "a", at(5, 5)), ("shift", "g", at(1, 0)), ("rehang", "m", ("next", "a", "b")),
                                 ("take", "b", True)]:
            book = self.book.twin()
            book.unlock("c")
            answer = getattr(book, deed)(*arguments)
            before = everything(book)
            self.assertTrue(answer)
            answer.append("more")
            answer[0] = "other"
            self.assertEqual(everything(book), before)
            kept = list(answer)
            book.undo()
            book.again()
            self.assertEqual((answer, everything(book)), (kept, before))

    def test_the_list_that_hung_bears(self):
        before = everything(self.book)
        for turn in range(2):
            with self.assertRaises(BookError) as caught:
                self.book.take("a", False)
            self.assertEqual(caught.exception.names, ["m", "c"])
            caught.exception.names.clear()
        self.assertEqual(everything(self.book), before)

    def test_lists_that_are_handed_in(self):
        for deed, question in [("group", self.book.groups), ("watch", self.book.watchers)]:
            names = ["b", "a", "b"]
            getattr(self.book, deed)("x", names)
            self.assertEqual(names, ["b", "a", "b"])
            told = question()
            names.append("m")
            names[0] = "nothing"
            self.assertEqual(question(), told)
            names.clear()
            self.assertEqual(question(), told)
            self.assertIn(("x", ("a", "b")), told)

    def test_tuples_stay_tuples(self):
        self.assertEqual(self.book.groups(), [("g", ("a", "b"))])
        self.assertEqual(self.book.watchers(), [("v", None), ("w", ("a", "m"))])
        self.assertEqual(self.book.heard("w"), [("a", "m")])
        self.assertEqual([type(one) for one in self.book.heard("w")], [tuple])


class SixtyThings(Booked):
    def test_a_book_of_sixty_things_in_good_time(self):
        for seed, far in ((1, 4), (2, 10 ** 9), (3, 10 ** 9)):
            row = model.some_row(seed, 60, far)
            book = built(*row)
            book.watch("all", None)
            book.group("every", [name for name, making in row])
            frees = [name for name, making in row if making[0] == "free"]
            for step, name in enumerate(frees * 4):
                book.move(name, ((step - 3, 7), (5, step + 1)))
            self.assertIn(frees[0], book.shift("every", ((1, 3), (-2, 1))))
            self.assertEqual(len(book.heard("all")), len(frees) * 4 + 1)
            self.assert_as_new(book)
            for step in range(book.steps()[0]):
                book.undo()
            for step in range(book.steps()[1]):
                book.again()
            self.assert_as_new(book)
            self.assertEqual(sorted(book.take(frees[0], True)), sorted([frees[0]] + model_above(row, frees[0])))
            self.assert_as_new(book)

    def test_long_lines_of_deeds(self):
        book = built(("a", free(0, 0)), ("b", free(1, 0)), ("m", ("middle", "a", "b")))
        book.watch("w", None)
        for step in range(1500):
            self.assertEqual(book.move("a", at(step + 1, 0)), ["a", "m"])
        self.assertEqual(len(book.heard("w")), 1500)
        for step in range(1500):
            book.undo()
        self.assertEqual((book.telling("a"), book.heard("w")), (("at", (0, 1), (0, 1)), []))


def model_above(row, name):
    return [other for other, making in row if name in model.hung(row, other)]


if __name__ == "__main__":
    unittest.main()
