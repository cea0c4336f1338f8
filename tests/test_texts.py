"""Books as texts: points 48 to 50."""

import random
import unittest

import chances
import model
import textmodel
from bookcase import Booked, asked, at, built, everything, free
from movebook.books import Book, begun
from movebook.errors import BadText, BookError
from movebook.texts import read, written

# One thing by each making.
EACH = [
    ("a", free(0, 0)), ("b", ("free", (3, 1), (-7, 12))), ("c", ("free", (1, 2), (4, 1))), ("mid", ("middle", "a", "b")),
    ("nxt", ("next", "a", "b")), ("trn", ("turn", "a", "b")), ("shr", ("share", "a", "b", (-1, 3))), ("l", ("line", "a", "b")),
    ("ft", ("foot", "c", "l")), ("mir", ("mirror", "c", "l")), ("aln", ("along", "c", "l")), ("upr", ("upright", "c", "l")),
    ("met", ("meet", "l", "upr")), ("k", ("circle", "a", "b")), ("o", ("cut", "l", "k", 1)), ("o2", ("cut", "k", "k", 2)),
    ("inl", ("inline", "a", "b", "c")), ("rnd", ("round", "a", "b", "c", "mid")), ("alk", ("alike", "a", "b", "b", "a")),
    ("bsd", ("beside", "l", "aln")), ("sqr", ("square", "l", "upr")),
]
EACH_TEXT = """put a free 0 0
put b free 3 -7/12
put c free 1/2 4
put mid middle a b
put nxt next a b
put trn turn a b
put shr share a b -1/3
put l line a b
put ft foot c l
put mir mirror c l
put aln along c l
put upr upright c l
put met meet l upr
put k circle a b
put o cut l k 1
put o2 cut k k 2
put inl inline a b c
put rnd round a b c mid
put alk alike a b b a
put bsd beside l aln
put sqr square l upr
"""


def full_book():
    """A book with locks, groups and watchers of each kind, in no order."""
    book = built(*EACH)
    for name in ("l", "k", "c"):
        book.lock(name)
    book.group("h", [])
    book.group("g", ["l", "c", "a", "c"])
    book.group("a9", ["b"])
    book.group("a10", ["k", "a"])
    book.watch("z", ["met", "a"])
    book.watch("all", None)
    book.watch("none", [])
    book.watch("c", None)
    return book


FULL_TEXT = EACH_TEXT + """lock c
lock l
lock k
group a10 a k
group a9 b
group g a c l
group h
watchall all
watchall c
watch none
watch z a met
"""


class Texts(Booked):
    def bad(self, text, number):
        """Refused with that number; the same is told by the words of point 50, held apart from the program."""
        self.assertEqual(textmodel.first_bad(text), number, text)
        for turn in range(2):
            with self.assertRaises(BadText) as caught:
                read(text)
            self.assertEqual(caught.exception.number, number, text)
            self.assertIs(type(caught.exception.number), int)

    def fine(self, text):
        """Read, with nothing to undo; its text is the same text."""
        book = read(text)
        self.assertEqual(written(book), text)
        self.assertEqual((book.steps(), book.marks()), ((0, 0), []))
        self.assertEqual([book.heard(name) for name, names in book.watchers()], [[] for one in book.watchers()])
        self.assert_as_new(book)
        return book


class Written(Texts):
    def test_an_empty_book(self):
        self.assertEqual(written(Book()), "")

    def test_each_makings_row(self):
        self.assertEqual(written(built(*EACH)), EACH_TEXT)

    def test_locks_groups_and_watchers(self):
        self.assertEqual(written(full_book()), FULL_TEXT)

    def test_sets_without_things_in_a_book_without_things(self):
        book = Book()
        book.watch("w", [])
        book.watch("v", None)
        book.group("g", [])
        self.assertEqual(written(book), "group g\nwatchall v\nwatch w\n")

    def test_the_same_text_once_more_and_nothing_is_changed(self):
        book = full_book()
        book.undo()
        before = everything(book)
        text = written(book)
        self.assertEqual((written(book), everything(book)), (text, before))
        self.assertEqual((written(book.twin()), written(begun(book))), (text, text))

    def test_what_was_heard_steps_and_marks_are_not_in_it(self):
        book = built(("a", free(0, 0)))
        book.watch("w", None)
        text = written(book)
        book.move("a", at(1, 1))
        book.mark("m")
        book.move("a", at(0, 0))
        book.lock("a")
        book.undo()
        self.assertEqual(written(book), text)

    def test_the_rows_order_behind_a_rehang(self):
        book = built(("a", free(0, 0)), ("b", free(1, 0)), ("m", ("middle", "a", "b")))
        book.lock("a")
        book.lock("b")
        book.group("g", ["a", "b", "m"])
        book.watch("w", ["m", "a", "b"])
        book.rehang("a", free(0, 0))
        self.assertEqual(written(book), "put b free 1 0\nput a free 0 0\nput m middle a b\nlock b\nlock a\n"
                                        "group g b a m\nwatch w b a m\n")

    def test_numbers(self):
        book = Book()
        parts = [(0, 1), (-3, 1), (1, 2), (-7, 12), (10 ** 9 - 1, 1), (1 - 10 ** 9, 10 ** 9 - 2), (100, 1), (1, 10)]
        for step, part in enumerate(parts):
            book.put(f"p{step}", ("free", part, (0, 1)))
        words = ["0", "-3", "1/2", "-7/12", "999999999", "-999999999/999999998", "100", "1/10"]
        self.assertEqual(written(book), "".join(f"put p{step} free {word} 0\n" for step, word in enumerate(words)))
        self.fine(written(book))

    def test_by_chance(self):
        for seed in range(10):
            chance, book = random.Random(seed), Book()
            for step in range(80):
                deed, *arguments = chances.deed_by(chance, [one[:2] for one in book.sheet()], 10)
                try:
                    getattr(book, deed)(*arguments)
                except BookError:
                    continue
                text = written(book)
                self.assertEqual(text, textmodel.book_text(book))
                self.assertEqual(everything(self.fine(text))[0], {**asked(book), "heard": {
                    name: [] for name, names in book.watchers()}})


class Read(Texts):
    def test_the_empty_text(self):
        self.assertEqual(everything(read("")), everything(Book()))

    def test_the_book_that_was_written(self):
        book = self.fine(FULL_TEXT)
        self.assertIs(type(book), Book)
        self.assertEqual(asked(book), asked(full_book()))
        for many in range(FULL_TEXT.count("\n") + 1):
            self.fine("".join(FULL_TEXT.splitlines(True)[:many]))

    def test_each_time_a_new_one(self):
        one, other = read(FULL_TEXT), read(FULL_TEXT)
        before = everything(other)
        one.put("new", free(9, 9))
        one.hush("z")
        one.mark("m")
        self.assertEqual(everything(other), before)
        self.assertEqual(everything(read(FULL_TEXT)), before)

    def test_nothing_can_be_undone(self):
        book = read(FULL_TEXT)
        for deed in ("undo", "again"):
            self.refused(book, "NoStep", None, deed)
        book.lock("a")
        book.undo()
        self.assertEqual(written(book), FULL_TEXT)

    def test_words_of_the_page_are_names(self):
        self.fine("put put free 0 0\nput free free 1 0\nput lock middle put free\nlock put\nlock lock\ngroup group put lock\n"
                  "watch watch put\nwatchall watchall\n")

    def test_a_book_of_sixty_things(self):
        book = built(*model.some_row(5, 60))
        book.watch("w", book.row())
        book.group("g", book.row())
        for name in book.row():
            book.lock(name)
        self.fine(written(book))


class BadRows(Texts):
    def after(self, row):
        """The row is bad as the first one, and behind good rows, whatever follows."""
        self.bad(row + "\n", 1)
        self.bad(EACH_TEXT + row + "\n", 22)
        self.bad(EACH_TEXT + row + "\nput z free 0 0\n", 22)
        self.bad(EACH_TEXT + row, 22)

    def behind(self, row):
        """The row is bad behind good ones."""
        self.bad(EACH_TEXT + row + "\n", 22)
        self.bad(EACH_TEXT + row + "\n\n", 22)

    def test_empty_rows(self):
        self.bad("\n", 1)
        self.bad("\n\n", 1)
        self.bad("\n" + EACH_TEXT, 1)
        self.bad(EACH_TEXT + "\n", 22)
        self.bad("put a free 0 0\n\nput b free 0 0\n", 2)

    def test_blanks_too_many(self):
        for row in [" put z free 0 0", "put  z free 0 0", "put z free 0  0", "put z free 0 0 ", "put z free  0 0", " ", "  ",
                    " put z free 0 0 ", "put z  free 0 0"]:
            self.after(row)
        for row in [" lock a", "lock  a", "lock a ", "group g ", "group  g", " group g", "group g  a", "group g a ", "watch w ",
                    "watchall  w", "watchall w ", "lock ", "group ", "watch ", "watchall "]:
            self.behind(row)

    def test_another_first_word(self):
        for row in ["Put z free 0 0", "move a 0 0", "free z 0 0", "z", "putz free 0 0", "unlock a", "undo", "mark m", "row", "puts",
                    "rehang a free 0 0", "take a", "hush w", "PUT z free 0 0", "steps", "-", "watchAll w", "lock,a", "put\tz free 0 0"]:
            self.after(row)

    def test_words_too_many_or_too_few(self):
        for row in ["put", "put z", "put z free", "put z free 0", "put z free 0 0 0", "put z middle a", "put z middle a b c",
                    "put z middle", "put z share a b", "put z share a b 1/2 1", "put z cut l k", "put z cut l k 1 1", "put z line a",
                    "put z inline a b", "put z inline a b c a", "put z round a b c", "put z foot a", "lock", "lock a b", "group",
                    "watch", "watchall", "watchall w a", "put z free 0 0 a"]:
            self.behind(row)
            self.bad(row + "\n", 1)

    def test_another_makings_word(self):
        for word in ["Free", "point", "at", "centre", "mid", "0", "put"]:
            self.after(f"put z {word} 0 0")
            self.behind(f"put z {word} a b")

    def test_bad_names(self):
        for name in ["A", "1", "a" * 13, "-", "a_b", "a.b", "*", "a,b", "a:b"]:
            self.after(f"put {name} free 0 0")
            self.behind(f"group {name} a")
            self.behind(f"group {name}")
            self.behind(f"watch {name} a")
            self.behind(f"watchall {name}")
            self.behind(f"lock {name}")
            self.behind(f"group g {name}")
        self.fine(f"put {'a' * 12} free 0 0\n")

    def test_names_that_are_taken(self):
        for row in ["put a free 0 0", "put sqr free 0 0", "put l line a b"]:
            self.behind(row)

    def test_numbers_of_every_wrong_form(self):
        long = "1" * 61
        for word in ["+1", "-0", "03", "2/4", "3/1", "1/0", "1/-2", "/2", "1/", "-", "", "--1", "-+1", "1/+2", "1/02", "01/2", "0/1",
                     "0/2", "-0/1", "-0/3", "00", "-01", "1/1", "-1/1", "1/2/3", "1//2", "/", "1.0", "1e3", "0x1", "1_0", "a", "-a", "1/a",
                     "-/2", "- 1", "1 /2", "2/2", "-2/4", "10/4", "1/00", "0/0", "one", "(1,2)", "1,2", long, "-" + long, "1/" + long]:
            self.bad(f"put z free {word} 0\n", 1)
            self.bad(f"put z free 0 {word}\n", 1)
            self.bad(EACH_TEXT + f"put z share a b {word}\n", 22)

    def test_numbers_of_sixty_figures_are_far(self):
        for word in ["9" * 60, "-" + "9" * 60, "1/" + "9" * 60, "1000000000", "1/1000000000"]:
            self.bad(f"put z free {word} 0\n", 1)
        for word in ["1000", "-1000", "1/1000", "1001/7"]:
            self.bad(EACH_TEXT + f"put z share a b {word}\n", 22)
        self.fine(EACH_TEXT + "put z share a b -999/998\nput y free 999999999 1/999999999\n")

    def test_a_cuts_number(self):
        for word in ["0", "3", "-1", "1/2", "a", "01", "+1", "12", "1/1"]:
            self.behind(f"put z cut l k {word}")
        self.fine(EACH_TEXT + "put z cut l k 2\nput y cut k k 1\n")

    def test_grounds_not_there_or_of_another_sort(self):
        for row in ["put z middle a no", "put z middle z z", "put z middle a l", "put z line a k", "put z meet a l", "put z cut a k 1",
                    "put z cut l l 1", "put z inline a b inl", "put z foot l a", "put z beside a b", "put z circle k a"]:
            self.behind(row)
        self.bad("put m middle a b\nput a free 0 0\nput b free 0 0\n", 1)

    def test_weights(self):
        rows = ["put a free 0 0"]
        for weight, on in ((2, "a"), (4, "h2"), (8, "h4"), (16, "h8"), (32, "h16")):
            rows.append(f"put h{weight} middle {on} {on}")
        text = "\n".join(rows) + "\n"
        self.fine(text + "put z middle h32 h8\n")
        self.bad(text + "put z inline h32 h8 a\n", 7)
        self.bad(text + "put z middle h32 h8\nput y middle z a\nput z free 0 0\n", 8)

    def test_rows_out_of_their_order(self):
        start = "put a free 0 0\nput b free 1 0\nput c free 2 0\n"
        for rows, number in [
                ("lock a\nput d free 0 0\n", 5), ("group g\nput d free 0 0\n", 5), ("watch w\nput d free 0 0\n", 5),
                ("watchall w\nput d free 0 0\n", 5), ("group g\nlock a\n", 5), ("watch w\nlock a\n", 5), ("watchall w\nlock a\n", 5),
                ("watch w\ngroup g\n", 5), ("watchall w\ngroup g\n", 5), ("lock a\ngroup g\nlock b\n", 6),
                ("lock b\nlock a\n", 5), ("lock a\nlock a\n", 5), ("lock a\nlock c\nlock b\n", 6), ("lock no\n", 4),
                ("lock a\nlock no\n", 5), ("group b\ngroup a\n", 5), ("group a\ngroup a\n", 5), ("group a9\ngroup a10\n", 5),
                ("group a\ngroup b\ngroup a b\n", 6), ("watch b\nwatch a\n", 5), ("watchall b\nwatch a\n", 5),
                ("watch b\nwatchall a\n", 5), ("watch w\nwatchall w\n", 5), ("watchall w\nwatch w a\n", 5), ("watch w a\nwatch w a\n", 5),
                ("group g b a\n", 4), ("group g a a\n", 4), ("group g a c b\n", 4), ("group g a no\n", 4), ("group g no\n", 4),
                ("watch w b a\n", 4), ("watch w a a\n", 4), ("watch w a b c no\n", 4), ("watch w g\n", 4)]:
            self.bad(start + rows, number)
        self.fine(start + "lock a\nlock c\ngroup a a c\ngroup a10\ngroup a9 b\nwatch a\nwatchall b\nwatch c a b c\n")

    def test_a_row_that_is_not_ended(self):
        for row in ["put z free 0 0", "lock a", "group g a", "watch w", "watchall w", "x", " "]:
            self.bad(EACH_TEXT + row, 22)
        self.bad("put a free 0 0", 1)
        self.bad("x", 1)
        self.bad(FULL_TEXT[:-1], 32)
        self.bad(FULL_TEXT + "put", 33)

    def test_the_first_of_several(self):
        self.bad("put a free 0 0\nput A free 0 0\nput a free 0 0\n", 2)
        self.bad("put a free 0 0\nput b free 0\nx", 2)
        self.bad("put a free 0 0\nx", 2)
        self.bad("x\ny\nz", 1)

    def test_other_ends_of_rows_are_no_ends(self):
        for end in ("\r\n", "\r", "\t\n", "\x0b", "\x0c"):
            with self.assertRaises(BadText) as caught:
                read("put a free 0 0" + end)
            self.assertEqual(caught.exception.number, 1)

    def test_by_chance_against_the_words(self):
        chance = random.Random(21)
        rows = FULL_TEXT.splitlines()
        ends = set()
        for turn in range(500):
            # Without the row of met, which the last watcher watches, the others are the text of a book.
            some = [row for row in rows if chance.random() < 0.3]
            few = some if turn % 3 == 0 else rows[:3] + [rows[7], rows[13]] + rows[21:-1]
            few = self.shaken(chance, few)
            text = "\n".join(few) + ("\n" if chance.random() < 0.9 and few else "")
            number = textmodel.first_bad(text)
            ends.add(number)
            if number is None:
                self.fine(text)
            else:
                self.bad(text, number)
        self.assertGreater(len(ends), 12)
        self.assertIn(None, ends)

    def shaken(self, chance, rows):
        """The rows with a change or two: rows swapped or doubled, words and signs changed."""
        rows = list(rows)
        for change in range(chance.randrange(3)):
            if not rows:
                break
            place, kind = chance.randrange(len(rows)), chance.random()
            if kind < 0.3:
                other = chance.randrange(len(rows))
                rows[place], rows[other] = rows[other], rows[place]
            elif kind < 0.4:
                rows.insert(place, chance.choice(rows))
            elif kind < 0.7:
                words = rows[place].split(" ")
                words[chance.randrange(len(words))] = chance.choice(["a", "l", "k", "0", "1", "-1/2", "free", "lock", "g", "", "z9"])
                rows[place] = " ".join(words)
            else:
                row = rows[place]
                at_sign = chance.randrange(len(row) + 1)
                rows[place] = row[:at_sign] + chance.choice(" 0a-/") + row[at_sign + chance.randrange(2):]
        return rows


if __name__ == "__main__":
    unittest.main()
