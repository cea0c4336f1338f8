"""Circles: points 11, 12 and 13, and point 2 for the lists that are told."""

import random
import unittest
from fractions import Fraction
from math import isqrt

from geometry import (GREAT, LINES, PLACES, SMALL_PLACES, Drawn, formed, number, numbers, pair, place, ring, some_line,
                      some_place, square_of, whole)
from movebook.circles import about, line_cuts, ring_cuts
from movebook.lines import along, mirror, through, upright
from movebook.places import beyond, middle, share, turned

RINGS = [ring(0, 0, 25), ring(0, 0, 1), ring(3, -2, 25), ring(Fraction(1, 2), Fraction(-2, 3), Fraction(25, 4)),
         ring(1, 1, 2), ring(0, 5, Fraction(1, 9)), ring(-7, 0, 50), ring(Fraction(1, 6), 0, 3), ring(6, 0, 25),
         ring(GREAT, -GREAT, GREAT), ring(Fraction(1, GREAT), 0, Fraction(GREAT - 1, GREAT)), ring(1, 0, 36)]


def square_root(number):
    """The root of a number of Python's, None where no fraction is it."""
    top, bottom = isqrt(number.numerator), isqrt(number.denominator)
    return Fraction(top, bottom) if Fraction(top, bottom) ** 2 == number else None


def cuts(line, circle):
    """What point 12 tells, by Python's own fractions."""
    a, b, c = line
    x, y, s = numbers(circle)
    e, n = c - a * x - b * y, a * a + b * b
    d = s * n - e * e
    if d < 0:
        return ("miss", [])
    r = square_root(d)
    if r is None:
        return ("root", [])
    x, y = x + a * e / n, y + b * e / n
    both = sorted([(x + r * b / n, y - r * a / n), (x - r * b / n, y + r * a / n)])
    return ("at", [place(*one) for one in both])


class Abouts(Drawn):
    def test_ordinary_ones(self):
        self.assertEqual(about(place(0, 0), place(3, 4)), ring(0, 0, 25))
        self.assertEqual(about(place(3, 4), place(0, 0)), ring(3, 4, 25))
        self.assertEqual(about(place(1, 2), place(1, 5)), ring(1, 2, 9))
        self.assertEqual(about(place(1, 2), place(-4, 2)), ring(1, 2, 25))
        self.assertEqual(about(place(0, 0), place(1, 1)), ring(0, 0, 2))
        self.assertEqual(about(place(0, 0), place(Fraction(1, 2), Fraction(1, 2))), ring(0, 0, Fraction(1, 2)))
        self.assertEqual(about(place(Fraction(1, 6), 0), place(Fraction(2, 3), 1)), ring(Fraction(1, 6), 0, Fraction(5, 4)))

    def test_all_pairs(self):
        for p in PLACES:
            for q in PLACES:
                if p != q:
                    told = about(p, q)
                    self.assertIs(type(told), tuple)
                    self.assertEqual(len(told), 3)
                    for one in told:
                        self.assert_fraction(one)
                    self.assertEqual(told[:2], p)
                    self.assertEqual(number(told[2]), square_of(p, q))
                    self.assertGreater(told[2][0], 0)

    def test_one_place_twice(self):
        for p in PLACES:
            self.assertIsNone(about(p, p))
            self.assertIsNone(about(p, place(*numbers(p))))


class Cut(Drawn):
    def assert_cut(self, told, word, *places):
        self.assertIs(type(told), tuple)
        self.assertEqual(told, (word, [place(*one) for one in places]))
        self.assertIs(type(told[1]), list)
        for one in told[1]:
            self.assert_place(one)


class LineCuts(Cut):
    def test_miss(self):
        for line in [(1, 0, 6), (1, 0, -6), (0, 1, 6), (3, 4, 26), (3, 4, -26), (1, 1, 8), (1, 0, GREAT)]:
            self.assert_cut(line_cuts(line, ring(0, 0, 25)), "miss")

    def test_root(self):
        for line in [(1, 0, 1), (0, 1, 1), (1, 1, 0), (1, 2, 3), (1, 0, 2)]:
            self.assert_cut(line_cuts(line, ring(0, 0, 25)), "root")
        self.assert_cut(line_cuts((1, 0, 0), ring(0, 0, 2)), "root")
        self.assert_cut(line_cuts((0, 1, 0), ring(0, 0, Fraction(1, 2))), "root")

    def test_touching_tells_the_place_twice(self):
        self.assert_cut(line_cuts((1, 0, 5), ring(0, 0, 25)), "at", (5, 0), (5, 0))
        self.assert_cut(line_cuts((1, 0, -5), ring(0, 0, 25)), "at", (-5, 0), (-5, 0))
        self.assert_cut(line_cuts((0, 1, 5), ring(0, 0, 25)), "at", (0, 5), (0, 5))
        self.assert_cut(line_cuts((3, 4, 25), ring(0, 0, 25)), "at", (3, 4), (3, 4))
        self.assert_cut(line_cuts((1, 1, 2), ring(0, 0, 2)), "at", (1, 1), (1, 1))

    def test_two_places_the_lesser_x_first(self):
        self.assert_cut(line_cuts((0, 1, 3), ring(0, 0, 25)), "at", (-4, 3), (4, 3))
        self.assert_cut(line_cuts((0, 1, 0), ring(0, 0, 25)), "at", (-5, 0), (5, 0))
        self.assert_cut(line_cuts((3, 4, 0), ring(0, 0, 25)), "at", (-4, 3), (4, -3))
        self.assert_cut(line_cuts((3, -4, 0), ring(0, 0, 25)), "at", (-4, -3), (4, 3))
        self.assert_cut(line_cuts((1, 1, 7), ring(0, 0, 25)), "at", (3, 4), (4, 3))
        self.assert_cut(line_cuts((1, -1, 1), ring(0, 0, 25)), "at", (-3, -4), (4, 3))
        self.assert_cut(line_cuts((1, -1, 0), ring(0, 0, 2)), "at", (-1, -1), (1, 1))

    def test_where_x_is_alike_the_lesser_y_first(self):
        self.assert_cut(line_cuts((1, 0, 3), ring(0, 0, 25)), "at", (3, -4), (3, 4))
        self.assert_cut(line_cuts((1, 0, -3), ring(0, 0, 25)), "at", (-3, -4), (-3, 4))
        self.assert_cut(line_cuts((1, 0, 7), ring(7, -2, 1)), "at", (7, -3), (7, -1))
        self.assert_cut(line_cuts((2, 0, 1), ring(0, 0, Fraction(5, 2))), "at",
                        (Fraction(1, 2), Fraction(-3, 2)), (Fraction(1, 2), Fraction(3, 2)))

    def test_parts(self):
        self.assert_cut(line_cuts((0, 2, 1), ring(Fraction(1, 3), Fraction(1, 2), Fraction(1, 4))), "at",
                        (Fraction(-1, 6), Fraction(1, 2)), (Fraction(5, 6), Fraction(1, 2)))

    def test_touching_and_one_part_beside_it(self):
        touch = GREAT * GREAT
        self.assert_cut(line_cuts((1, 0, GREAT), ring(0, 0, touch)), "at", (GREAT, 0), (GREAT, 0))
        self.assert_cut(line_cuts((1, 0, GREAT), ring(0, 0, touch + 1)), "at", (GREAT, -1), (GREAT, 1))
        self.assert_cut(line_cuts((1, 0, GREAT), ring(0, 0, touch + 2)), "root")
        self.assert_cut(line_cuts((1, 0, GREAT), ring(0, 0, touch - 1)), "miss")
        self.assert_cut(line_cuts((1, 0, GREAT), ring(0, 0, touch - Fraction(1, GREAT))), "miss")

    def test_all_pairs_by_the_document(self):
        words = set()
        lines = LINES + [formed(a, b, c) for a in (-1, 0, 3) for b in (-1, 1, 4) for c in range(-8, 26, 3)]
        for circle in RINGS:
            for line in lines + [through(p, q) for p in SMALL_PLACES[:4] for q in SMALL_PLACES[4:]]:
                told = line_cuts(line, circle)
                words.add(told[0])
                self.assertEqual(told, cuts(line, circle))
                for p in told[1]:
                    self.assert_place(p)
                    self.assert_on_line(p, line)
                    self.assert_on_ring(p, circle)
        self.assertEqual(words, {"miss", "root", "at"})

    def test_great_numbers(self):
        chance = random.Random(12)
        for figures in [9, 20, 30, 40, 50, 60]:
            for again in range(4):
                centre, first, line = some_place(chance, figures), some_place(chance, figures), some_line(chance, figures)
                circle = about(centre, first)
                second = mirror(first, upright(centre, line))
                told = line_cuts(through(first, second), circle)
                self.assertEqual(told, ("at", sorted([first, second], key=numbers)))
                touching = upright(first, through(centre, first))
                self.assertEqual(line_cuts(touching, circle), ("at", [first, first]))
                missing = along(beyond(centre, first), touching)
                self.assertEqual(line_cuts(missing, circle), ("miss", []))
                crossing = along(middle(centre, first), touching)
                self.assertEqual(line_cuts(crossing, circle), ("root", []))
                self.assertEqual(line_cuts(line, circle), cuts(line, circle))

    def test_a_great_circle_of_sixty_figures(self):
        chance = random.Random(120)
        for again in range(20):
            circle = (pair(Fraction(whole(chance, 60), 7)), pair(whole(chance, 60)),
                      pair(Fraction(abs(whole(chance, 60)) + 1, abs(whole(chance, 60)) + 1)))
            line = some_line(chance, 60)
            self.assertEqual(line_cuts(line, circle), cuts(line, circle))

    def test_the_told_list_is_the_askers_own(self):
        for line, circle in [((1, 0, 3), ring(0, 0, 25)), ((1, 0, 9), ring(0, 0, 25)), ((1, 0, 1), ring(0, 0, 25))]:
            told = line_cuts(line, circle)
            kept = (told[0], list(told[1]))
            told[1].append("more")
            self.assertEqual(line_cuts(line, circle), kept)
            told[1].clear()
            again = line_cuts(line, circle)
            self.assertEqual(again, kept)
            self.assertIsNot(again[1], line_cuts(line, circle)[1])


class RingCuts(Cut):
    def both(self, one, other, word, *places):
        self.assert_cut(ring_cuts(one, other), word, *places)
        self.assert_cut(ring_cuts(other, one), word, *places)

    def test_one_centre(self):
        for circle in RINGS:
            self.assert_cut(ring_cuts(circle, circle), "centre")
            x, y, s = numbers(circle)
            for other in (ring(x, y, s), ring(x, y, s + 1), ring(x, y, s / 4), ring(x, y, s + Fraction(1, GREAT))):
                self.both(circle, other, "centre")

    def test_centres_alike_in_one_number_alone(self):
        self.both(ring(0, 0, 25), ring(0, 6, 25), "at", (-4, 3), (4, 3))
        self.both(ring(0, 0, 25), ring(6, 0, 25), "at", (3, -4), (3, 4))
        self.both(ring(0, 0, 25), ring(-6, 0, 25), "at", (-3, -4), (-3, 4))

    def test_miss(self):
        self.both(ring(0, 0, 25), ring(11, 0, 25), "miss")
        self.both(ring(0, 0, 25), ring(0, -11, 25), "miss")
        self.both(ring(0, 0, 25), ring(1, 0, 1), "miss")
        self.both(ring(0, 0, 25), ring(1, 1, Fraction(1, 4)), "miss")
        self.both(ring(0, 0, 1), ring(GREAT, 0, 1), "miss")

    def test_root(self):
        self.both(ring(0, 0, 25), ring(1, 0, 25), "root")
        self.both(ring(0, 0, 1), ring(1, 0, 1), "root")
        self.both(ring(0, 0, 2), ring(2, 0, 3), "root")
        self.both(ring(0, 0, 3), ring(Fraction(1, 2), 0, 3), "root")

    def test_touching_from_outside(self):
        self.both(ring(0, 0, 25), ring(10, 0, 25), "at", (5, 0), (5, 0))
        self.both(ring(0, 0, 25), ring(6, 8, 25), "at", (3, 4), (3, 4))
        self.both(ring(0, 0, 2), ring(3, 3, 8), "at", (1, 1), (1, 1))
        self.both(ring(0, 0, 1), ring(0, -3, 4), "at", (0, -1), (0, -1))

    def test_touching_from_within(self):
        self.both(ring(0, 0, 25), ring(2, 0, 9), "at", (5, 0), (5, 0))
        self.both(ring(0, 0, 100), ring(3, 4, 25), "at", (6, 8), (6, 8))
        self.both(ring(0, 0, 25), ring(0, 2, 49), "at", (0, -5), (0, -5))

    def test_two_places(self):
        self.both(ring(0, 0, 25), ring(7, 7, 25), "at", (3, 4), (4, 3))
        self.both(ring(0, 0, 25), ring(-7, 7, 25), "at", (-4, 3), (-3, 4))
        self.both(ring(0, 0, 25), ring(6, 0, 25), "at", (3, -4), (3, 4))
        self.both(ring(0, 0, 2), ring(2, 0, 2), "at", (1, -1), (1, 1))
        self.both(ring(0, 0, 1), ring(1, 1, 1), "at", (0, 1), (1, 0))

    def test_all_pairs(self):
        words = set()
        circles = RINGS + [about(p, q) for p in SMALL_PLACES[::3] for q in SMALL_PLACES if p != q]
        for one in circles:
            for other in circles:
                told = ring_cuts(one, other)
                words.add(told[0])
                self.assertEqual(told, ring_cuts(other, one))
                self.assert_right(told, one, other)
        self.assertEqual(words, {"centre", "miss", "root", "at"})

    def assert_right(self, told, one, other):
        """By the sides of the triangle of both centres and a place that both circles have."""
        d, s, t = square_of(one[:2], other[:2]), number(one[2]), number(other[2])
        # Four times the area squared, times four: below nought where there is no such triangle.
        area = 4 * d * s - (d + s - t) ** 2
        word = "centre" if d == 0 else "miss" if area < 0 else "root" if square_root(area) is None else "at"
        self.assertEqual(told[0], word)
        self.assertEqual(len(told[1]), 2 if word == "at" else 0)
        for p in told[1]:
            self.assert_place(p)
            self.assert_on_ring(p, one)
            self.assert_on_ring(p, other)
        if word == "at":
            first, second = told[1]
            self.assertEqual(first == second, area == 0)
            self.assertLessEqual(numbers(first), numbers(second))

    def test_great_numbers(self):
        chance = random.Random(13)
        for figures in [9, 20, 40, 60]:
            for again in range(3):
                one, other, p = (some_place(chance, figures) for each in range(3))
                first, second = about(one, p), about(other, p)
                q = mirror(p, through(one, other))
                self.assertEqual(ring_cuts(first, second), ("at", sorted([p, q], key=numbers)))
                self.assertEqual(ring_cuts(second, first), ("at", sorted([p, q], key=numbers)))

    def test_great_ones_that_touch(self):
        chance = random.Random(130)
        for figures in [9, 30, 60]:
            centre, p = some_place(chance, figures), some_place(chance, figures)
            for t in [(2, 1), (3, 7), (-5, 3), (GREAT, GREAT - 1)]:
                one, other = about(centre, p), about(share(centre, p, t), p)
                self.assertEqual(ring_cuts(one, other), ("at", [p, p]))
                self.assertEqual(ring_cuts(other, one), ("at", [p, p]))
            near = about(share(centre, p, (3, 1)), turned(p, share(centre, p, (3, 1))))
            self.assertEqual(ring_cuts(about(centre, p), near), ("at", [p, p]))
            x, y, s = numbers(near)
            self.assertEqual(ring_cuts(about(centre, p), ring(x, y, s - s / GREAT)), ("miss", []))

    def test_the_told_list_is_the_askers_own(self):
        for one, other in [(ring(0, 0, 25), ring(6, 0, 25)), (ring(0, 0, 25), ring(11, 0, 25)),
                           (ring(0, 0, 25), ring(1, 0, 25)), (ring(0, 0, 25), ring(0, 0, 25))]:
            told = ring_cuts(one, other)
            kept = (told[0], list(told[1]))
            told[1].append("more")
            self.assertEqual(ring_cuts(one, other), kept)
            told[1].clear()
            self.assertEqual(ring_cuts(one, other), kept)


if __name__ == "__main__":
    unittest.main()
