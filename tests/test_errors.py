"""The refusals: the interface, section movebook/errors.py, and point 2 for what they are made with."""

import inspect
import unittest

from movebook import errors
from movebook.errors import BookError

NAMED = ["BadName", "Taken", "NoThing", "WrongSort", "NotFree", "Far", "TooHeavy", "Ring", "Locked",
         "NoGroup", "NoWatcher", "NoMark", "Rooted", "TooWide"]
NUMBERED = ["BadText", "Nought"]
BARE = ["NoNumber", "NoStep"]
ALL = NAMED + ["Hung"] + NUMBERED + BARE

TEXTS = ["", "a", "abc123", "Great Letters", " ", "~!\"#$&'()*+,-./{}%s%", "{name}", "a\nb", "x" * 4000]
NUMBERS = [0, 1, -1, 7, 10 ** 60 - 1, 1 - 10 ** 60, 10 ** 6000]


def made(word):
    """A refusal of the class of that name, made with a value of its kind."""
    refusal = getattr(errors, word)
    if word in NAMED:
        return refusal("abc")
    if word in NUMBERED:
        return refusal(3)
    if word == "Hung":
        return refusal(["b", "c"])
    return refusal()


def taken_by(refusal, catcher):
    """Whether an except clause with the class takes the refusal that is raised."""
    try:
        try:
            raise refusal
        except catcher:
            return True
    except ValueError:
        return False


class Classes(unittest.TestCase):
    def test_there_are_nineteen(self):
        self.assertEqual(len(set(ALL)), 19)
        for word in ALL:
            self.assertTrue(inspect.isclass(getattr(errors, word)), word)

    def test_any_refusal_is_a_value_error(self):
        self.assertEqual(BookError.__bases__, (ValueError,))

    def test_each_stands_straight_under_book_error(self):
        for word in ALL:
            self.assertEqual(getattr(errors, word).__bases__, (BookError,), word)

    def test_each_is_defined_in_the_file(self):
        for word in ALL + ["BookError"]:
            self.assertEqual(getattr(errors, word).__module__, "movebook.errors")
            self.assertEqual(getattr(errors, word).__name__, word)

    def test_each_is_taken_by_its_own_class_and_those_above(self):
        for word in ALL:
            self.assertTrue(taken_by(made(word), getattr(errors, word)), word)
            self.assertTrue(taken_by(made(word), BookError), word)
            self.assertTrue(taken_by(made(word), ValueError), word)

    def test_none_is_taken_by_another_of_the_nineteen(self):
        for word in ALL:
            for other in ALL:
                if other != word:
                    self.assertFalse(taken_by(made(word), getattr(errors, other)), (word, other))


class Values(unittest.TestCase):
    def test_a_name_of_any_text(self):
        for word in NAMED:
            for text in TEXTS:
                refusal = getattr(errors, word)(text)
                self.assertEqual(refusal.name, text)
                self.assertIs(type(refusal.name), str)

    def test_a_number_of_any_size(self):
        for word in NUMBERED:
            for number in NUMBERS:
                refusal = getattr(errors, word)(number)
                self.assertTrue(refusal.number == number, word)
                self.assertIs(type(refusal.number), int)

    def test_hung_has_any_list_of_texts_in_its_order(self):
        for names in [[], ["a"], ["c", "a", "b"], ["a", "a"], [""], list(TEXTS), ["n"] * 60]:
            refusal = errors.Hung(list(names))
            self.assertEqual(refusal.names, names)
            self.assertIs(type(refusal.names), list)

    def test_two_are_made_with_nothing(self):
        for word in BARE:
            with self.assertRaises(BookError) as caught:
                raise getattr(errors, word)()
            self.assertEqual(type(caught.exception).__name__, word)

    def test_refusals_keep_their_values_apart(self):
        for word in NAMED:
            first, second = getattr(errors, word)("one"), getattr(errors, word)("two")
            self.assertEqual((first.name, second.name), ("one", "two"))
        for word in NUMBERED:
            first, second = getattr(errors, word)(1), getattr(errors, word)(2)
            self.assertEqual((first.number, second.number), (1, 2))
        first, second = errors.Hung(["a"]), errors.Hung(["b"])
        self.assertEqual((first.names, second.names), (["a"], ["b"]))

    def test_words_are_the_class_and_the_names(self):
        for word in NAMED:
            self.assertEqual(made(word).words, (word, "abc"))
        for word in NUMBERED + BARE:
            self.assertEqual(made(word).words, (word,))
        self.assertEqual(errors.Hung(["b", "c"]).words, ("Hung", "b", "c"))

    def test_the_value_is_there_behind_the_raising(self):
        with self.assertRaises(ValueError) as caught:
            raise errors.Locked("abc")
        self.assertEqual(caught.exception.name, "abc")


class HandedIn(unittest.TestCase):
    """Point 2: nothing that is handed in is changed, nor tells what is changed later."""

    def test_what_the_caller_does_to_the_list_later_changes_nothing(self):
        names = ["a", "b", "c"]
        refusal = errors.Hung(names)
        shown = (str(refusal), repr(refusal), repr(refusal.args))
        names.append("d")
        names[0] = "z"
        self.assertEqual(refusal.names, ["a", "b", "c"])
        names.clear()
        self.assertEqual(refusal.names, ["a", "b", "c"])
        self.assertEqual((str(refusal), repr(refusal), repr(refusal.args)), shown)

    def test_making_it_changes_no_list(self):
        names = ["c", "a", "b", "a"]
        errors.Hung(names)
        self.assertEqual(names, ["c", "a", "b", "a"])

    def test_changing_its_list_changes_no_other(self):
        names = ["a", "b"]
        first, second = errors.Hung(names), errors.Hung(names)
        first.names.append("c")
        self.assertEqual(names, ["a", "b"])
        self.assertEqual(second.names, ["a", "b"])


if __name__ == "__main__":
    unittest.main()
