"""Over the whole program: points 1 to 3. Desks and books that are told the same, texts that go on alike, long lines."""

import random
import unittest

import chances
import textmodel
from bookcase import Booked, asked, everything, refusal_of
from bookmodel import ModelBook, Refused
from movebook.books import Book
from movebook.desk import Desk
from movebook.errors import BookError
from movebook.looker import looks
from movebook.sharing import shared
from movebook.tellings import anew
from movebook.texts import read, written


def done(book, deed, arguments):
    """The desk's answer for what the book does."""
    try:
        names = getattr(book, deed)(*arguments)
    except BookError as error:
        return textmodel.refused_text(*refusal_of(error))
    except Refused as error:
        return textmodel.refused_text(error.word, error.told)
    return textmodel.joined("done", names or [])


def some_deed(chance, book, many):
    """A deed by chance whose names are words, so that a desk can be told it."""
    while True:
        deed, *arguments = chances.deed_by(chance, [one[:2] for one in book.sheet()], many)
        line = textmodel.line_for(deed, arguments)
        if line is not None:
            return deed, arguments, line


class DeskAndBook(Booked):
    def test_told_the_same_they_answer_alike(self):
        for seed in range(10):
            chance = random.Random(seed)
            desk, book, plain = Desk(), Book(), ModelBook()
            for step in range(100):
                deed, arguments, line = some_deed(chance, book, 9)
                answer = desk.told(line)
                self.assertEqual(answer, done(plain, deed, arguments), (seed, line))
                self.assertEqual(answer, done(book, deed, arguments), (seed, line))
                for question, told in textmodel.questions(book).items():
                    self.assertEqual(desk.told(question), told, question)
            self.assertEqual(everything(desk.book()), everything(book))

    def test_ever_at_the_desk_is_ever_of_the_book(self):
        words = set()
        for seed in range(30):
            chance = random.Random(seed)
            desk = Desk()
            for step in range(60):
                desk.told(some_deed(chance, desk.book(), 14)[2])
            book = desk.book()
            for name in book.row():
                try:
                    word, places = book.ever(name)
                    due = ["ever", word] + [part for free, place in places for part in textmodel.words_of([free, *place])]
                except BookError as error:
                    due = textmodel.refused_text(*refusal_of(error)).split(" ")
                self.assertEqual(desk.told(f"ever {name}"), " ".join(due))
                words.add(due[1])
        self.assertLessEqual({"always", "breaks", "never", "WrongSort", "TooWide"}, words)

    def test_the_text_of_a_book_is_told_to_a_desk(self):
        for seed in range(6):
            chance, book = random.Random(seed), Book()
            for step in range(70):
                done(book, *some_deed(chance, book, 10)[:2])
            desk = Desk()
            for line in written(book).splitlines():
                self.assertEqual(desk.told(line), "done")
            self.assertEqual(written(desk.book()), written(book))
            self.assertEqual(desk.book().sheet(), book.sheet())


class ReadAndWritten(Booked):
    def test_a_read_book_and_the_written_one_go_on_alike(self):
        for seed in range(8):
            chance, book = random.Random(seed), Book()
            for step in range(50):
                done(book, *some_deed(chance, book, 9)[:2])
            other = read(written(book))
            for name, names in book.watchers():
                book.hush(name)
            for step in range(60):
                deed, arguments, line = some_deed(chance, book, 11)
                # The line of states is not in the text, so these would lead apart.
                if deed in ("undo", "again", "back"):
                    continue
                self.assertEqual(done(book, deed, arguments), done(other, deed, arguments), line)
                self.assertEqual(asked(book), asked(other))
                self.assertEqual(written(book), written(other))

    def test_every_sheet_on_the_way_looks_right(self):
        for seed in range(8):
            chance, book = random.Random(seed), Book()
            for step in range(60):
                before = book.twin()
                done(book, *some_deed(chance, book, 10)[:2])
                sheet = book.sheet()
                self.assertTrue(looks(sheet))
                self.assertEqual([telling for name, making, telling in sheet], anew([one[:2] for one in sheet]))
                self.assertEqual(shared(book, book), book.row())
                self.assertEqual(shared(before, book), [one[0] for one in before.sheet() if one in sheet])


class LongLines(Booked):
    def test_deeds_undo_again_and_back_lead_through_the_very_same_states(self):
        for seed in range(6):
            chance, desk = random.Random(seed), Desk()
            # What was told in each state of the line, by its number, and the marks.
            line, marks = [asked(desk.book())], {}
            for step in range(150):
                place = desk.book().steps()[0]
                word = chance.choice(["deed"] * 4 + ["undo", "undo", "undo", "again", "again", "mark", "back"])
                if word in ("undo", "again"):
                    desk.told(word)
                    place = min(max(place + (1 if word == "again" else -1), 0), len(line) - 1)
                elif word == "mark":
                    name = chance.choice("pqr")
                    desk.told(f"mark {name}")
                    marks[name] = place
                elif word == "back":
                    name = chance.choice("pqr")
                    place = marks.get(name, place)
                    desk.told(f"back {name}")
                else:
                    deed, arguments, told = some_deed(chance, desk.book(), 8)
                    if deed not in ("undo", "again", "mark", "back") and desk.told(told).startswith("done"):
                        line[place + 1:] = [asked(desk.book())]
                        marks = {name: number for name, number in marks.items() if number <= place}
                        place += 1
                book = desk.book()
                self.assertEqual(asked(book), line[place])
                self.assertEqual(book.steps(), (place, len(line) - 1 - place))
                self.assertEqual(dict(book.marks()), marks)

    def test_a_locked_thing_tells_the_same_as_long_as_deeds_are_done(self):
        for seed in range(10):
            chance, book = random.Random(seed), Book()
            while len(book.row()) < 8:
                done(book, *some_deed(chance, book, 8)[:2])
            for name in chance.sample(book.row(), 2):
                book.lock(name)
            for step in range(80):
                deed, arguments, line = some_deed(chance, book, 8)
                if deed in ("undo", "again", "back", "rename", "unlock", "lock"):
                    continue
                before = {name: book.telling(name) for name in book.locked()}
                done(book, deed, arguments)
                self.assertEqual({name: book.telling(name) for name in book.locked()}, before, line)

    def test_what_a_move_answers_is_just_what_tells_otherwise(self):
        for seed in range(10):
            chance, book = random.Random(seed), Book()
            for step in range(100):
                deed, arguments, line = some_deed(chance, book, 10)
                before = {one[0]: one[2] for one in book.sheet()}
                answer = done(book, deed, arguments)
                if deed in ("move", "shift", "rehang") and answer.startswith("done"):
                    changed = [one[0] for one in book.sheet() if before[one[0]] != one[2]]
                    self.assertEqual(answer.split(" ")[1:], changed)


if __name__ == "__main__":
    unittest.main()
