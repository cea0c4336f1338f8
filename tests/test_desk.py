"""The desk: points 51 to 53."""

import unittest

from bookcase import asked, at, everything, free
from limits import Limited
from movebook.books import Book
from movebook.desk import Desk
from movebook.texts import written

START = ["put a free 0 0", "put b free 4 0", "put m middle a b", "put l line a b", "put k circle a b", "put c inline a b m"]
DEED_WORDS = ["put", "rehang", "move", "shift", "rename", "take", "takeall", "lock", "unlock", "group", "ungroup", "watch",
              "watchall", "unwatch", "hush", "mark", "back", "undo", "again"]
QUESTION_WORDS = ["row", "locked", "beneath", "above", "making", "telling", "weight", "groups", "watchers", "heard", "steps",
                  "marks", "ever"]


def desk_with(*lines):
    desk = Desk()
    for line in lines:
        answer = desk.told(line)
        assert answer.split(" ")[0] == "done", (line, answer)
    return desk


class Told(Limited):
    def setUp(self):
        Limited.setUp(self)
        self.desk = desk_with(*START)

    def says(self, *pairs, desk=None):
        """Lines with their answers, one after another."""
        for line, answer in pairs:
            self.assertEqual((desk or self.desk).told(line), answer, line)

    def refuses(self, line, *words):
        """The line is refused with these words, and all is as it was."""
        before = everything(self.desk.book())
        self.assertEqual(self.desk.told(line), " ".join(["refused", *words]), line)
        self.assertEqual(everything(self.desk.book()), before, line)

    def asks(self, line, answer):
        """The question changes nothing, and is answered so once more."""
        before = everything(self.desk.book())
        for turn in range(2):
            told = self.desk.told(line)
            self.assertEqual(told, answer, line)
            self.assertIs(type(told), str)
        self.assertEqual(everything(self.desk.book()), before)


class Deeds(Told):
    def test_an_empty_book_at_first(self):
        self.assertEqual(everything(Desk().book()), everything(Book()))

    def test_put_each_making(self):
        self.says(*[(line, "done") for line in [
            "put p free 1/2 -3", "put q next a b", "put r turn a b", "put s share a b -1/3", "put t foot p l", "put u mirror p l",
            "put v along p l", "put w upright p l", "put x meet l w", "put y cut l k 2", "put z cut k k 1", "put a1 round a b p q",
            "put a2 alike a b p q", "put a3 beside l v", "put a4 square l w"]])
        self.assertEqual(self.desk.book().making("p"), ("free", (1, 2), (-3, 1)))
        self.assertEqual(self.desk.book().making("s"), ("share", "a", "b", (-1, 3)))
        self.assertEqual(self.desk.book().making("y"), ("cut", "l", "k", 2))

    def test_move(self):
        self.says(("move b 6 0", "done b m k"), ("move b 6 0", "done"), ("move b -1/2 7/3", "done b m l k"))
        self.assertEqual(self.desk.book().telling("b"), ("at", (-1, 2), (7, 3)))

    def test_groups_and_shift(self):
        self.says(("group g b a b", "done"), ("shift g 1/2 0", "done a b m k"), ("group h", "done"), ("shift h 1 1", "done"),
                  ("groups", "groups g:a,b h:"), ("group g m", "done"), ("shift g 1 1", "done"), ("ungroup g", "done"),
                  ("groups", "groups h:"))

    def test_rehang(self):
        self.says(("rehang m share a b 1/4", "done m"), ("row", "row a b l k m c"), ("rehang m share a b 1/4", "done"),
                  ("rehang l line b a", "done"), ("row", "row a b k m c l"), ("rehang a free 0 1", "done a k m l"))

    def test_rename(self):
        self.says(("rename m n", "done"), ("row", "row a b n l k c"), ("making c", "making inline a b n"))

    def test_take_and_takeall(self):
        self.says(("take c", "done c"), ("takeall b", "done b m l k"), ("row", "row a"), ("takeall a", "done a"), ("row", "row"))

    def test_lock_and_unlock(self):
        self.says(("lock m", "done"), ("lock a", "done"), ("lock m", "done"), ("locked", "locked a m"), ("unlock a", "done"),
                  ("unlock b", "done"), ("locked", "locked m"))

    def test_watchers(self):
        self.says(("watchall w", "done"), ("watch v m c", "done"), ("watch u", "done"), ("watchers", "watchers u: v:m,c w:*"),
                  ("move a 1 0", "done a m k"), ("move a 2 0", "done a m k"), ("heard w", "heard a,m,k a,m,k"), ("heard v", "heard m m"),
                  ("heard u", "heard"), ("hush v", "done"), ("heard v", "heard"), ("unwatch w", "done"),
                  ("watchers", "watchers u: v:m,c"))

    def test_undo_again_mark_and_back(self):
        self.says(("mark here", "done"), ("move a 1 1", "done a m l k"), ("undo", "done"), ("steps", "steps 6 1"),
                  ("again", "done"), ("steps", "steps 7 0"), ("mark there", "done"), ("marks", "marks here:6 there:7"),
                  ("back here", "done"), ("telling a", "telling at 0 0"), ("back there", "done"), ("telling a", "telling at 1 1"))


class Questions(Told):
    def setUp(self):
        Told.setUp(self)
        self.desk = desk_with(*START, "put n line a a", "put o meet l n", "put p free -3/2 5", "put s share a b -1/3",
                              "put x cut l k 1", "put q inline a b p")

    def test_row_and_locked(self):
        self.asks("row", "row a b m l k c n o p s x q")
        self.asks("locked", "locked")
        self.desk.told("lock p")
        self.desk.told("lock b")
        self.asks("locked", "locked b p")

    def test_beneath_and_above(self):
        self.asks("beneath c", "beneath a b m")
        self.asks("beneath a", "beneath")
        self.asks("above m", "above c")
        self.asks("above b", "above m l k c o s x q")
        self.asks("above q", "above")

    def test_making(self):
        for line, answer in [("a", "free 0 0"), ("p", "free -3/2 5"), ("m", "middle a b"), ("s", "share a b -1/3"),
                             ("x", "cut l k 1"), ("c", "inline a b m")]:
            self.asks(f"making {line}", f"making {answer}")

    def test_telling(self):
        for line, answer in [("a", "at 0 0"), ("p", "at -3/2 5"), ("s", "at -4/3 0"), ("l", "line 0 1 0"), ("k", "circle 0 0 16"),
                             ("c", "kept"), ("q", "broken"), ("n", "gone n same"), ("o", "gone n same"), ("x", "at -4 0")]:
            self.asks(f"telling {line}", f"telling {answer}")

    def test_weight(self):
        for line, answer in [("a", 1), ("m", 2), ("c", 4), ("x", 6)]:
            self.asks(f"weight {line}", f"weight {answer}")

    def test_with_nothing_to_tell(self):
        self.desk = Desk()
        for word in ("row", "locked", "groups", "watchers", "marks"):
            self.asks(word, word)
        self.asks("steps", "steps 0 0")
        self.desk = desk_with("watch w", "watchall v", "group g")
        self.asks("heard w", "heard")
        self.asks("heard v", "heard")
        self.asks("groups", "groups g:")
        self.asks("watchers", "watchers v:* w:")

    def test_groups_and_watchers_are_sorted(self):
        for line in ["group b m a", "group a10", "group a9 p", "watch z a", "watchall y", "watch x9 q c", "watch x10"]:
            self.desk.told(line)
        self.asks("groups", "groups a10: a9:p b:a,m")
        self.asks("watchers", "watchers x10: x9:c,q y:* z:a")

    def test_marks_by_their_numbers_then_by_their_names(self):
        for line in ["mark z", "mark a10", "mark a9", "undo", "mark y"]:
            self.desk.told(line)
        self.asks("marks", "marks y:11 a10:12 a9:12 z:12")
        self.asks("steps", "steps 11 1")

    def test_ever(self):
        self.asks("ever c", "ever always a 0 0 b 1 0")
        self.desk.told("put e inline o a b")
        self.asks("ever e", "ever never")
        word, verdict, *rest = self.desk.told("ever q").split(" ")
        self.assertEqual((word, verdict, rest[0::3]), ("ever", "breaks", ["a", "b", "p"]))
        for name, x, y in zip(rest[0::3], rest[1::3], rest[2::3]):
            self.assertTrue(self.desk.told(f"move {name} {x} {y}").startswith("done"))
        self.asks("telling q", "telling broken")

    def test_numbers_of_many_figures(self):
        self.says(("put g free 999999999/999999998 -1/999999999", "done"), ("telling g", "telling at 999999999/999999998 -1/999999999"),
                  ("put h next g a", "done"), ("telling h", "telling at -999999999/999999998 1/999999999"))


class Refusals(Told):
    """Each class of refusal that a desk can answer, with its name or names."""

    def setUp(self):
        Told.setUp(self)
        self.desk = desk_with(*START, "put h4 middle m m", "put h8 middle h4 h4", "put h16 middle h8 h8", "put h32 middle h16 h16",
                              "put x cut l k 1", "put r inline a b x", "put f1 free 1 1", "put f2 free 1 2", "put w1 round a b f1 f2",
                              "put w2 middle f1 f2", "put w3 inline w2 w2 m", "put wide round w2 w2 b m", "group g a b", "watch w a",
                              "lock c", "lock l")

    def test_each_class(self):
        far = "1000000000"
        for line, *words in [
                ("put A free 0 0", "BadName", "A"), ("put a free 0 0", "Taken", "a"), ("put z middle a no", "NoThing", "no"),
                ("put z middle a l", "WrongSort", "l"), (f"put z free {far} 0", "Far", "z"), ("put z share a b 1000", "Far", "z"),
                ("put z inline h32 h8 a", "TooHeavy", "z"), ("move no 0 0", "NoThing", "no"), ("move m 0 0", "NotFree", "m"),
                (f"move a 0 {far}", "Far", "a"), ("move a 0 1", "Locked", "l"), ("shift no 0 0", "NoGroup", "no"),
                (f"shift g {far} 0", "Far", "a"), ("shift g 0 1", "Locked", "l"), ("rehang no free 0 0", "NoThing", "no"),
                ("rehang m middle a no", "NoThing", "no"), ("rehang m middle a l", "WrongSort", "l"),
                ("rehang m line a b", "WrongSort", "m"), ("rehang m middle m a", "Ring", "m"), ("rehang m middle a h8", "Ring", "h8"),
                (f"rehang m free 0 {far}", "Far", "m"), ("rehang f1 middle h32 h16", "TooHeavy", "f1"),
                ("rehang l line a f1", "Locked", "l"), ("rename no z", "NoThing", "no"), ("rename a A", "BadName", "A"),
                ("rename a b", "Taken", "b"), ("rename a a", "Taken", "a"), ("take no", "NoThing", "no"),
                ("takeall no", "NoThing", "no"), ("take l", "Hung", "x", "r"), ("take m", "Hung", "c", "h4", "h8", "h16", "h32", "w3", "wide"),
                ("take c", "Locked", "c"), ("takeall m", "Locked", "c"), ("lock no", "NoThing", "no"), ("unlock no", "NoThing", "no"),
                ("group G a", "BadName", "G"), ("group g a no nor", "NoThing", "no"), ("ungroup no", "NoGroup", "no"),
                ("watch W a", "BadName", "W"), ("watchall W", "BadName", "W"), ("watch w no", "NoThing", "no"),
                ("unwatch no", "NoWatcher", "no"), ("hush no", "NoWatcher", "no"), ("heard no", "NoWatcher", "no"),
                ("mark M", "BadName", "M"), ("back no", "NoMark", "no"), ("again", "NoStep"), ("ever no", "NoThing", "no"),
                ("ever a", "WrongSort", "a"), ("ever k", "WrongSort", "k"), ("ever r", "Rooted", "x"), ("ever wide", "TooWide", "wide")]:
            self.refuses(line, *words)
        for word in ("beneath", "above", "making", "telling", "weight", "ever"):
            self.refuses(f"{word} no", "NoThing", "no")
        self.desk = Desk()
        self.refuses("undo", "NoStep")

    def test_any_word_where_a_name_stands(self):
        for word in ["A", "1", "-1/2", "+", "a" * 40, "*", "a:b", "a,b", "%", "{a}", "\"", "~"]:
            self.refuses(f"put {word} free 0 0", "BadName", word)
            self.refuses(f"put z middle a {word}", "NoThing", word)
            self.refuses(f"move {word} 0 0", "NoThing", word)
            self.refuses(f"shift {word} 0 0", "NoGroup", word)
            self.refuses(f"rename {word} z", "NoThing", word)
            self.refuses(f"rename a {word}", "BadName", word)
            self.refuses(f"group g {word}", "NoThing", word)
            self.refuses(f"group {word}", "BadName", word)
            self.refuses(f"telling {word}", "NoThing", word)
            self.refuses(f"heard {word}", "NoWatcher", word)
            self.refuses(f"mark {word}", "BadName", word)
            self.refuses(f"back {word}", "NoMark", word)

    def test_a_refused_line_cuts_off_nothing(self):
        self.desk.told("undo")
        self.refuses("put a free 0 0", "Taken", "a")
        self.says(("again", "done"), ("locked", "locked l c"))


class BadLines(Told):
    def bad(self, line):
        self.refuses(line, "BadLine")

    def test_the_empty_line_and_blanks(self):
        for line in ["", " ", "  ", " row", "row ", "  row", "row  ", " undo", "undo ", "put  z free 0 0", "put z free 0 0 ",
                     " put z free 0 0", "put z free  0 0", "group g ", "group  g", "telling  a", "telling a ", "rename a  z"]:
            self.bad(line)

    def test_another_first_word(self):
        for line in ["a", "free", "Put z free 0 0", "ROW", "rows", "watch-all w", "sheet", "twin", "book", "told row", "take-all a", "0",
                     "done", "refused", "read", "begun", "BadLine", "nothing", "name"]:
            self.bad(line)

    def test_words_too_many_or_too_few(self):
        for word in ["row", "locked", "groups", "watchers", "steps", "marks", "undo", "again"]:
            for more in ["a", "0", "a b"]:
                self.bad(f"{word} {more}")
        for word in ["beneath", "above", "making", "telling", "weight", "heard", "ever", "take", "takeall", "lock", "unlock", "ungroup",
                     "unwatch", "watchall", "hush", "mark", "back"]:
            self.bad(word)
            self.bad(f"{word} a b")
            self.bad(f"{word} no no no")
        for line in ["rename", "rename a", "rename a b c", "move", "move a", "move a 0", "move a 0 0 0", "move 0 0", "shift", "shift g",
                     "shift g 0", "shift g 0 0 0", "group", "watch", "put", "put z", "put z free", "put z free 0", "put z free 0 0 0",
                     "rehang", "rehang a", "rehang a free", "rehang a free 0", "rehang m middle a", "rehang m middle a b c",
                     "put z middle a", "put z middle a b c", "put z share a b", "put z share a b 1 1", "put z cut l k",
                     "put z cut l k 1 1", "put z inline a b", "put z round a b c", "put z round a b c a b", "put z line a"]:
            self.bad(line)

    def test_another_makings_word(self):
        for word in ["Free", "point", "at", "Middle", "claim", "cross", "1", "-"]:
            for deed in ("put z", "rehang m"):
                self.bad(f"{deed} {word} a b")
                self.bad(f"{deed} {word} 0 0")

    def test_no_number_where_a_number_stands(self):
        for word in ["+1", "-0", "03", "2/4", "3/1", "1/0", "1/-2", "/2", "1/", "-", "--1", "a", "1.5", "1e2", "0/1", "0/3", "1/1",
                     "01/2", "1/02", "1/2/3", "1" * 61, "-" + "1" * 61, "1/" + "1" * 61, "0" * 60, "x1", "1_000", "1,2"]:
            for line in ["put z free {} 0", "put z free 0 {}", "put z share a b {}", "rehang a free {} 0", "rehang m share a b {}",
                         "move a {} 0", "move a 0 {}", "shift g {} 0", "shift g 0 {}"]:
                self.bad(line.format(word))

    def test_numbers_of_sixty_figures(self):
        long = "9" * 60
        self.refuses(f"move a {long} 0", "Far", "a")
        self.refuses(f"move a 1/{long} 0", "Far", "a")
        self.refuses(f"move a -{long} 0", "Far", "a")
        self.desk.told("group g")
        self.says((f"shift g {long} -1/{long}", "done"))

    def test_no_one_or_two_where_they_stand(self):
        for word in ["0", "3", "-1", "1/2", "a", "01", "+1", "12", "1/1", "2/2"]:
            self.bad(f"put z cut l k {word}")
            self.bad(f"rehang m cut l k {word}")

    def test_ahead_of_every_other_refusal(self):
        for line in ["put A free 0 x", "put a free 0 x", "put z middle no", "put z share a no 2/4", "put z share a l 03",
                     "put A nothing a b", "put z cut a no 3", "move no 0 x", "move m 0 +1", "move a 1000000000 x", "shift no 0 x",
                     "rehang no free 0 x", "rehang no nothing a b", "rehang m share m a 2/4", "rename no", "take no no", "lock no no",
                     "ungroup no no", "heard no no", "back no no", "mark A B", "ever no no"]:
            self.bad(line)

    def test_nothing_changes(self):
        self.desk.told("undo")
        for line in ["", "put z free 0", "undo 1", "again 1", "move a 0 x", "mark", "hush"]:
            self.bad(line)
        self.says(("steps", "steps 5 1"), ("again", "done"), ("row", "row a b m l k c"))


class Names(Told):
    def test_names_that_are_words_of_the_desk(self):
        desk = Desk()
        for step, word in enumerate(DEED_WORDS + QUESTION_WORDS):
            self.says((f"put {word} free {step} 0", "done"), (f"group {word} {word}", "done"), (f"watch {word} {word}", "done"),
                      (f"mark {word}", "done"), (f"telling {word}", f"telling at {step} 0"), desk=desk)
        for word in DEED_WORDS + QUESTION_WORDS:
            self.says((f"move {word} 0 1", f"done {word}"), (f"heard {word}", f"heard {word}"), (f"shift {word} 1 0", f"done {word}"),
                      (f"take {word}", f"done {word}"), desk=desk)
        self.says(("row", "row"), desk=desk)

    def test_words_of_makings_and_tellings(self):
        self.says(("put free free 0 0", "done"), ("put middle middle free b", "done"), ("making middle", "making middle free b"),
                  ("put line line free free", "done"), ("telling line", "telling gone line same"), ("rename line gone", "done"),
                  ("telling gone", "telling gone gone same"))


class Books(Told):
    def test_the_book_is_a_twin(self):
        self.desk.told("undo")
        self.desk.told("mark x")
        before = everything(self.desk.book())
        book = self.desk.book()
        self.assertIs(type(book), Book)
        self.assertEqual((book.steps(), book.marks()), ((5, 1), [("x", 5)]))
        book.again()
        book.undo()
        book.put("z", free(1, 1))
        book.move("a", at(7, 7))
        book.mark("x")
        book.watch("w", None)
        self.assertEqual(everything(self.desk.book()), before)
        self.says(("row", "row a b m l k"), ("again", "done"))

    def test_what_is_told_changes_nothing_of_a_book_that_was_asked_for(self):
        book = self.desk.book()
        before = everything(book)
        for line in ["move a 3 3", "mark y", "takeall a", "undo", "undo", "put z free 0 0", "watchall w"]:
            self.desk.told(line)
        self.assertEqual(everything(book), before)
        self.assertEqual(asked(book), before[0])

    def test_two_desks_are_apart(self):
        other = Desk()
        self.assertEqual(written(other.book()), "")
        other.told("put z free 0 0")
        self.says(("row", "row a b m l k c"))
        self.says(("row", "row z"), desk=other)


if __name__ == "__main__":
    unittest.main()
