"""Lines: points 7, 9 and 10, and point 2 for what is handed in."""

import random
import unittest
from fractions import Fraction

from geometry import (GREAT, LINES, PLACES, SMALL_PLACES, Drawn, formed, numbers, place, some_line, some_place,
                      square_of)
from movebook.lines import along, foot, meet, mirror, through, upright
from movebook.places import beyond, middle


class Through(Drawn):
    def test_ordinary_ones(self):
        for p, q, told in [((0, 0), (1, 1), (1, -1, 0)), ((0, 0), (2, 1), (1, -2, 0)), ((0, 3), (4, 0), (3, 4, 12)),
                           ((0, 0), (-2, 6), (3, 1, 0)), ((1, 1), (4, -5), (2, 1, 3)),
                           ((Fraction(1, 2), 0), (0, Fraction(1, 3)), (2, 3, 1))]:
            self.assertEqual(through(place(*p), place(*q)), told)
            self.assertEqual(through(place(*q), place(*p)), told)

    def test_level_and_upright_lines(self):
        for p, q, told in [((1, 2), (5, 2), (0, 1, 2)), ((1, -2), (5, -2), (0, 1, -2)), ((3, 0), (3, 1), (1, 0, 3)),
                           ((-3, 0), (-3, 9), (1, 0, -3)), ((0, 0), (7, 0), (0, 1, 0)), ((0, 0), (0, 7), (1, 0, 0)),
                           ((Fraction(2, 3), 1), (Fraction(2, 3), 8), (3, 0, 2)),
                           ((1, Fraction(-2, 3)), (8, Fraction(-2, 3)), (0, 3, -2)), ((0, GREAT), (1, GREAT), (0, 1, GREAT))]:
            self.assertEqual(through(place(*p), place(*q)), told)
            self.assertEqual(through(place(*q), place(*p)), told)

    def test_all_pairs(self):
        for p in PLACES:
            for q in PLACES:
                if p != q:
                    told = through(p, q)
                    self.assert_line(told)
                    self.assert_on_line(p, told)
                    self.assert_on_line(q, told)
                    self.assertEqual(through(q, p), told)

    def test_one_place_twice(self):
        for p in PLACES:
            self.assertIsNone(through(p, p))
            self.assertIsNone(through(p, place(*numbers(p))))

    def test_every_two_places_of_a_line_tell_it(self):
        places = [place(Fraction(k, 2), Fraction(3 * k - 1, 5)) for k in range(-6, 7)]
        for p in places:
            for q in places:
                if p != q:
                    self.assertEqual(through(p, q), (6, -5, 1))

    def test_great_numbers(self):
        chance = random.Random(9)
        for figures in range(40, 61):
            p, q = some_place(chance, figures), some_place(chance, figures)
            told = through(p, q)
            self.assert_line(told)
            self.assert_on_line(p, told)
            self.assert_on_line(q, told)


class AlongAndUpright(Drawn):
    def test_ordinary_ones(self):
        self.assertEqual(along(place(0, 0), (3, 4, 25)), (3, 4, 0))
        self.assertEqual(along(place(1, 1), (2, 4, 1)), (1, 2, 3))
        self.assertEqual(along(place(Fraction(1, 2), 0), (1, 1, 0)), (2, 2, 1))
        self.assertEqual(upright(place(0, 0), (3, 4, 25)), (4, -3, 0))
        self.assertEqual(upright(place(1, 2), (1, 0, 5)), (0, 1, 2))
        self.assertEqual(upright(place(1, 2), (0, 1, 5)), (1, 0, 1))
        self.assertEqual(upright(place(1, 1), (2, -4, 1)), (2, 1, 3))
        self.assertEqual(upright(place(0, Fraction(1, 3)), (1, -1, 7)), (3, 3, 1))

    def test_by_the_products(self):
        for p in PLACES:
            for line in LINES:
                beside, square = along(p, line), upright(p, line)
                self.assert_line(beside)
                self.assert_line(square)
                self.assert_on_line(p, beside)
                self.assert_on_line(p, square)
                self.assertEqual(line[0] * beside[1], line[1] * beside[0])
                self.assertEqual(line[0] * square[0] + line[1] * square[1], 0)

    def test_of_a_place_on_the_line(self):
        for p in PLACES:
            for q in PLACES[:4]:
                if p != q:
                    line = through(p, q)
                    self.assertEqual(along(p, line), line)
                    self.assertEqual(along(q, line), line)
                    self.assertEqual(upright(q, upright(p, line)), line)

    def test_great_numbers(self):
        chance = random.Random(99)
        for figures in range(40, 61):
            p, line = some_place(chance, figures), some_line(chance, figures)
            for told in (along(p, line), upright(p, line)):
                self.assert_line(told)
                self.assert_on_line(p, told)
                self.assertEqual(along(p, told), told)


class Meets(Drawn):
    def test_ordinary_ones(self):
        self.assert_place_at(meet((1, 0, 3), (0, 1, 4)), 3, 4)
        self.assert_place_at(meet((1, 1, 1), (1, -1, 0)), Fraction(1, 2), Fraction(1, 2))
        self.assert_place_at(meet((3, 4, 25), (4, -3, 0)), 3, 4)
        self.assert_place_at(meet((2, 3, -1), (5, -7, 4)), Fraction(5, 29), Fraction(-13, 29))
        self.assert_place_at(meet((1, 2, 0), (3, -1, 0)), 0, 0)

    def test_side_by_side_they_meet_nowhere(self):
        for line in LINES:
            self.assertIsNone(meet(line, line))
            for p in PLACES:
                other = along(p, line)
                self.assertIsNone(meet(line, other))
                self.assertIsNone(meet(other, line))
        self.assertIsNone(meet((2, 2, 1), (1, 1, 3)))
        self.assertIsNone(meet((2, 0, 1), (1, 0, 3)))
        self.assertIsNone(meet((0, 2, 1), (0, 1, 3)))

    def test_all_pairs(self):
        for line in LINES:
            for other in LINES:
                told = meet(line, other)
                self.assertEqual(told, meet(other, line))
                if line[0] * other[1] == line[1] * other[0]:
                    self.assertIsNone(told)
                else:
                    self.assert_place(told)
                    self.assert_on_line(told, line)
                    self.assert_on_line(told, other)

    def test_all_but_side_by_side(self):
        self.assert_place_at(meet((GREAT, GREAT - 1, 0), (GREAT - 1, GREAT - 2, 1)), GREAT - 1, -GREAT)
        self.assert_place_at(meet((1, 0, 0), (GREAT, 1, 1)), 0, 1)

    def test_lines_through_one_place_meet_there(self):
        for p in PLACES:
            others = [through(p, q) for q in PLACES if q != p]
            for line in others[:6]:
                for other in others:
                    if line != other:
                        self.assertEqual(meet(line, other), p)

    def test_great_numbers(self):
        chance = random.Random(10)
        for figures in range(40, 61):
            line, other = some_line(chance, figures), some_line(chance, figures)
            told = meet(line, other)
            self.assert_place(told)
            self.assert_on_line(told, line)
            self.assert_on_line(told, other)
            self.assertEqual(meet(other, line), told)


class FeetAndMirrors(Drawn):
    def test_ordinary_ones(self):
        self.assert_place_at(foot(place(0, 0), (3, 4, 25)), 3, 4)
        self.assert_place_at(mirror(place(0, 0), (3, 4, 25)), 6, 8)
        self.assert_place_at(foot(place(5, 7), (0, 1, 2)), 5, 2)
        self.assert_place_at(mirror(place(5, 7), (0, 1, 2)), 5, -3)
        self.assert_place_at(foot(place(5, 7), (1, 0, 2)), 2, 7)
        self.assert_place_at(mirror(place(5, 7), (1, 0, 2)), -1, 7)
        self.assert_place_at(mirror(place(5, 7), (1, -1, 0)), 7, 5)
        self.assert_place_at(foot(place(1, 0), (1, 2, 0)), Fraction(4, 5), Fraction(-2, 5))

    def test_all_pairs(self):
        for p in PLACES:
            for line in LINES:
                below, across = foot(p, line), mirror(p, line)
                self.assert_place(below)
                self.assert_place(across)
                self.assert_on_line(below, line)
                self.assert_on_line(below, upright(p, line))
                self.assertEqual(meet(line, upright(p, line)), below)
                self.assertEqual(middle(p, across), below)
                self.assertEqual(across, beyond(p, below))

    def test_of_a_place_on_the_line(self):
        for p in PLACES:
            for q in PLACES:
                if p != q:
                    line = through(p, q)
                    self.assertEqual(foot(p, line), p)
                    self.assertEqual(mirror(p, line), p)

    def test_the_mirrors_mirror_is_the_place(self):
        for p in PLACES:
            for line in LINES:
                self.assertEqual(mirror(mirror(p, line), line), p)
                self.assertEqual(foot(foot(p, line), line), foot(p, line))

    def test_the_mirror_is_as_far_from_places_of_the_line(self):
        for p in SMALL_PLACES:
            line = (2, -5, 7)
            for q in (place(1, -1), place(6, 1), place(Fraction(7, 2), 0)):
                self.assertEqual(square_of(p, q), square_of(mirror(p, line), q))

    def test_great_numbers(self):
        chance = random.Random(101)
        for figures in range(40, 61):
            p, line = some_place(chance, figures), some_line(chance, figures)
            x, y = numbers(p)
            a, b, c = line
            step = Fraction(c - a * x - b * y) / (a * a + b * b)
            self.assert_place_at(foot(p, line), x + a * step, y + b * step)
            self.assert_place_at(mirror(p, line), x + 2 * a * step, y + 2 * b * step)


class HandedInAgain(Drawn):
    def test_what_was_told_is_handed_in_again(self):
        chance = random.Random(100)
        p, q, r = (some_place(chance, 60) for one in range(3))
        for again in range(3):
            line, other = through(p, q), through(mirror(r, through(p, q)), p)
            self.assert_line(line)
            self.assert_line(other)
            self.assertEqual(meet(line, other), p)
            p, q = foot(r, line), q
            self.assert_on_line(p, line)

    def test_formed_is_the_form_that_is_told(self):
        for line in LINES:
            self.assert_line(line)
            self.assertEqual(formed(-3 * line[0], -3 * line[1], -3 * line[2]), line)


if __name__ == "__main__":
    unittest.main()
