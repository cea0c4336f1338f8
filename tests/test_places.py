"""Places: point 8, and point 2 for what is handed in."""

import random
import unittest
from fractions import Fraction

from geometry import GREAT, PLACES, SMALL_PLACES, Drawn, number, numbers, pair, place, some_number, some_place
from movebook.places import beyond, middle, share, turned

PARTS = [pair(part) for part in (0, 1, -1, 2, Fraction(1, 2), Fraction(-1, 2), Fraction(7, 3), Fraction(-5, 12),
                                 GREAT, -GREAT, Fraction(1, GREAT), Fraction(GREAT - 1, GREAT))]


class Middles(Drawn):
    def test_ordinary_ones(self):
        self.assert_place_at(middle(place(0, 0), place(2, 4)), 1, 2)
        self.assert_place_at(middle(place(0, 0), place(1, 3)), Fraction(1, 2), Fraction(3, 2))
        self.assert_place_at(middle(place(-3, Fraction(1, 3)), place(3, Fraction(1, 6))), 0, Fraction(1, 4))
        self.assert_place_at(middle(place(-3, -4), place(-1, -1)), -2, Fraction(-5, 2))

    def test_all_pairs(self):
        for p in PLACES:
            for q in PLACES:
                (px, py), (qx, qy) = numbers(p), numbers(q)
                self.assert_place_at(middle(p, q), (px + qx) / 2, (py + qy) / 2)
                self.assertEqual(middle(p, q), middle(q, p))

    def test_one_place_twice(self):
        for p in PLACES:
            self.assertEqual(middle(p, p), p)


class Shares(Drawn):
    def test_ordinary_ones(self):
        p, q = place(1, 2), place(4, -4)
        self.assert_place_at(share(p, q, (1, 3)), 2, 0)
        self.assert_place_at(share(p, q, (2, 3)), 3, -2)
        self.assert_place_at(share(p, q, (-1, 3)), 0, 4)
        self.assert_place_at(share(p, q, (5, 3)), 6, -8)
        self.assert_place_at(share(p, q, (1, 2)), Fraction(5, 2), -1)
        self.assert_place_at(share(q, p, (1, 3)), 3, -2)

    def test_all_pairs(self):
        for p in PLACES:
            for q in PLACES:
                (px, py), (qx, qy) = numbers(p), numbers(q)
                for t in PARTS:
                    part = number(t)
                    self.assert_place_at(share(p, q, t), px + part * (qx - px), py + part * (qy - py))

    def test_by_nought_and_by_one(self):
        for p in PLACES:
            for q in PLACES:
                self.assertEqual(share(p, q, (0, 1)), p)
                self.assertEqual(share(p, q, (1, 1)), q)

    def test_one_place_twice(self):
        for p in PLACES:
            for t in PARTS:
                self.assertEqual(share(p, p, t), p)

    def test_alike_in_one_number_alone(self):
        for t in PARTS:
            self.assert_place_at(share(place(5, 1), place(5, 3), t), 5, 1 + 2 * number(t))
            self.assert_place_at(share(place(1, 5), place(3, 5), t), 1 + 2 * number(t), 5)

    def test_great_numbers(self):
        chance = random.Random(8)
        for figures in range(40, 61):
            p, q, part = some_place(chance, figures), some_place(chance, figures), some_number(chance, figures)
            (px, py), (qx, qy) = numbers(p), numbers(q)
            self.assert_place_at(share(p, q, pair(part)), px + part * (qx - px), py + part * (qy - py))


class Nexts(Drawn):
    def test_ordinary_ones(self):
        self.assert_place_at(beyond(place(0, 0), place(1, 2)), 2, 4)
        self.assert_place_at(beyond(place(1, 2), place(0, 0)), -1, -2)
        self.assert_place_at(beyond(place(Fraction(1, 2), 1), place(Fraction(1, 3), 1)), Fraction(1, 6), 1)

    def test_all_pairs(self):
        for p in PLACES:
            for q in PLACES:
                (px, py), (qx, qy) = numbers(p), numbers(q)
                self.assert_place_at(beyond(p, q), 2 * qx - px, 2 * qy - py)

    def test_the_middle_of_p_and_the_next_is_q(self):
        for p in PLACES:
            for q in PLACES:
                self.assertEqual(middle(p, beyond(p, q)), q)
                self.assertEqual(beyond(p, middle(p, q)), q)

    def test_one_place_twice(self):
        for p in PLACES:
            self.assertEqual(beyond(p, p), p)


class Turns(Drawn):
    def test_ordinary_ones(self):
        self.assert_place_at(turned(place(1, 0), place(0, 0)), 0, 1)
        self.assert_place_at(turned(place(0, 1), place(0, 0)), -1, 0)
        self.assert_place_at(turned(place(3, 2), place(1, 1)), 0, 3)
        self.assert_place_at(turned(place(Fraction(1, 2), 0), place(0, Fraction(1, 3))), Fraction(1, 3), Fraction(5, 6))

    def test_all_pairs(self):
        for p in PLACES:
            for q in PLACES:
                (px, py), (qx, qy) = numbers(p), numbers(q)
                self.assert_place_at(turned(p, q), qx - (py - qy), qy + (px - qx))

    def test_four_times_is_where_it_was(self):
        for p in PLACES:
            for q in PLACES:
                twice = turned(turned(p, q), q)
                self.assertEqual(twice, beyond(p, q))
                self.assertEqual(turned(turned(twice, q), q), p)

    def test_about_itself(self):
        for p in PLACES:
            self.assertEqual(turned(p, p), p)


class HandedInAgain(Drawn):
    def test_what_was_told_is_handed_in_again(self):
        for p in PLACES[-10:]:
            for q in PLACES[-10:]:
                told = turned(middle(p, q), share(p, q, (1, 3)))
                further = share(told, beyond(p, told), (-7, 12))
                self.assert_place(further)
                (px, py), (tx, ty) = numbers(p), numbers(told)
                part = Fraction(-7, 12)
                self.assertEqual(numbers(further), (tx + part * (2 * tx - px - tx), ty + part * (2 * ty - py - ty)))

    def test_asking_twice_tells_the_same(self):
        for p in SMALL_PLACES:
            for q in SMALL_PLACES:
                for asked in (middle, beyond, turned):
                    self.assertEqual(asked(p, q), asked(p, q))


if __name__ == "__main__":
    unittest.main()
