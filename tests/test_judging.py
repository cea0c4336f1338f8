"""What five words mean: points 7, 9 and 14."""

import itertools
import random
import unittest
from fractions import Fraction

from geometry import (GREAT, LINES, PLACES, SMALL_PLACES, Drawn, numbers, place, some_line, some_place, square_of)
from movebook.circles import about, line_cuts
from movebook.judging import all_round, as_far, in_line, side_by_side, square_on
from movebook.lines import along, mirror, through, upright
from movebook.places import beyond, middle, share, turned

UNIT = [place(x, y) for x, y in [(1, 0), (0, 1), (-1, 0), (0, -1), (Fraction(3, 5), Fraction(4, 5)),
                                 (Fraction(-5, 13), Fraction(12, 13)), (Fraction(8, 17), Fraction(-15, 17))]]


def moved(p, x, y):
    """The place beside p, so far to the right and so far upward."""
    px, py = numbers(p)
    return place(px + x, py + y)


class Judged(Drawn):
    def judged(self, asked, handed, answer):
        """In every order of the places, where the order does not count."""
        for order in itertools.permutations(handed):
            self.assertIs(asked(*order), answer, order)


class InLine(Judged):
    def test_ordinary_ones(self):
        self.judged(in_line, [place(0, 0), place(1, 1), place(2, 2)], True)
        self.judged(in_line, [place(0, 0), place(1, 1), place(2, 3)], False)
        self.judged(in_line, [place(1, 0), place(1, 5), place(1, Fraction(-1, 3))], True)
        self.judged(in_line, [place(0, 1), place(5, 1), place(Fraction(-1, 3), 1)], True)
        self.judged(in_line, [place(0, 1), place(5, 1), place(5, 2)], False)
        self.judged(in_line, [place(0, Fraction(1, 3)), place(Fraction(1, 2), 0), place(1, Fraction(-1, 3))], True)

    def test_places_alike(self):
        for p in PLACES:
            self.assertIs(in_line(p, p, p), True)
            for q in PLACES:
                self.judged(in_line, [p, p, q], True)

    def test_all_small_ones_by_the_line(self):
        for p, q, r in itertools.combinations(SMALL_PLACES, 3):
            a, b, c = through(p, q)
            x, y = numbers(r)
            self.judged(in_line, [p, q, r], a * x + b * y == c)

    def test_near_misses(self):
        for size in (1, 10, 10 ** 9, 10 ** 30, GREAT):
            p, q, r = place(0, 0), place(size, size), place(2 * size, 2 * size)
            self.judged(in_line, [p, q, r], True)
            for x, y in [(1, 0), (-1, 0), (0, 1), (0, -1), (Fraction(1, GREAT), 0)]:
                self.judged(in_line, [p, q, moved(r, x, y)], False)
                self.judged(in_line, [p, moved(q, x, y), r], False)
                self.judged(in_line, [moved(p, x, y), q, r], False)

    def test_great_numbers(self):
        chance = random.Random(14)
        for figures in range(40, 61, 4):
            p, q, r = (some_place(chance, figures) for one in range(3))
            self.judged(in_line, [p, q, r], False)
            self.judged(in_line, [p, q, share(p, q, (-7, 12))], True)
            self.judged(in_line, [p, q, beyond(p, q)], True)
            self.judged(in_line, [p, q, moved(beyond(p, q), 0, 1)], False)


class SideBySide(Judged):
    def test_ordinary_ones(self):
        for line, other, answer in [((1, 1, 0), (1, 1, 5), True), ((2, 2, 1), (1, 1, 5), True),
                                    ((1, 1, 0), (1, -1, 0), False), ((1, 0, 0), (2, 0, 1), True),
                                    ((0, 1, 0), (0, 3, 1), True), ((1, 0, 0), (0, 1, 0), False),
                                    ((1, 0, 0), (1, 1, 0), False), ((0, 1, 0), (1, 1, 0), False),
                                    ((2, -3, 1), (4, -6, 1), True), ((2, -3, 1), (4, -5, 1), False),
                                    ((3, 2, 1), (2, 3, 1), False), ((1, 2, 0), (2, -1, 0), False)]:
            self.judged(side_by_side, [line, other], answer)

    def test_with_itself(self):
        for line in LINES:
            self.assertIs(side_by_side(line, line), True)

    def test_along_and_upright(self):
        for line in LINES:
            for p in PLACES:
                self.judged(side_by_side, [line, along(p, line)], True)
                self.judged(side_by_side, [line, upright(p, line)], False)

    def test_near_misses(self):
        self.judged(side_by_side, [(GREAT, GREAT - 1, 0), (GREAT - 1, GREAT - 2, 0)], False)
        self.judged(side_by_side, [(GREAT, 1, 0), (GREAT - 1, 1, 0)], False)
        self.judged(side_by_side, [(GREAT, 2, 1), (GREAT, 1, 1)], False)
        self.judged(side_by_side, [(GREAT, 2, 1), (GREAT, 2, -1)], True)


class SquareOn(Judged):
    def test_ordinary_ones(self):
        for line, other, answer in [((1, 0, 3), (0, 1, 4), True), ((1, 1, 0), (1, -1, 9), True),
                                    ((3, 4, 25), (4, -3, 0), True), ((3, 4, 25), (8, -6, 1), True),
                                    ((3, 4, 25), (4, -2, 0), False), ((3, 4, 25), (4, 3, 0), False),
                                    ((1, 0, 0), (1, 0, 1), False), ((0, 1, 0), (0, 1, 1), False),
                                    ((1, 0, 0), (1, 1, 0), False), ((1, 2, 0), (2, 1, 0), False)]:
            self.judged(square_on, [line, other], answer)

    def test_a_line_is_never_square_to_itself(self):
        for line in LINES:
            self.assertIs(square_on(line, line), False)

    def test_along_and_upright(self):
        for line in LINES:
            for p in PLACES:
                self.judged(square_on, [line, upright(p, line)], True)
                self.judged(square_on, [line, along(p, line)], False)

    def test_near_misses(self):
        self.judged(square_on, [(GREAT, GREAT - 1, 0), (GREAT - 1, -GREAT, 0)], True)
        self.judged(square_on, [(GREAT, GREAT - 1, 0), (GREAT - 1, 1 - GREAT, 0)], False)
        self.judged(square_on, [(GREAT, GREAT - 1, 0), (GREAT - 2, -GREAT, 0)], False)
        self.judged(square_on, [some_line(random.Random(1), 60), some_line(random.Random(2), 60)], False)


class AllRound(Judged):
    def test_ordinary_ones(self):
        self.judged(all_round, [place(0, 0), place(1, 0), place(1, 1), place(0, 1)], True)
        self.judged(all_round, [place(0, 0), place(2, 0), place(1, 1), place(0, 1)], False)
        self.judged(all_round, [place(0, 0), place(2, 0), place(1, 1), place(1, -1)], True)
        self.judged(all_round, [place(3, 4), place(5, 0), place(-4, 3), place(0, -5)], True)
        self.judged(all_round, [place(3, 4), place(5, 0), place(-4, 3), place(1, -5)], False)

    def test_on_one_circle(self):
        for four in itertools.combinations(UNIT, 4):
            self.judged(all_round, four, True)
            self.judged(all_round, [moved(p, Fraction(-7, 3), GREAT) for p in four], True)

    def test_on_one_line(self):
        for p, q in [(place(0, 0), place(1, 2)), (place(3, 1), place(3, 2)), (place(3, 1), place(4, 1)),
                     (PLACES[-1], PLACES[-2])]:
            self.judged(all_round, [p, q, share(p, q, (1, 3)), share(p, q, (-5, 2))], True)

    def test_three_on_one_line_and_one_beside(self):
        self.judged(all_round, [place(0, 0), place(1, 0), place(2, 0), place(0, 1)], False)
        self.judged(all_round, [place(0, 0), place(0, 1), place(0, 2), place(1, 1)], False)
        self.judged(all_round, [place(0, 0), place(1, 1), place(2, 2), place(3, 4)], False)

    def test_places_alike(self):
        for p, q, r in itertools.combinations(PLACES[::2], 3):
            self.judged(all_round, [p, p, q, r], True)
        for p in PLACES:
            self.assertIs(all_round(p, p, p, p), True)
            for q in PLACES[::5]:
                self.judged(all_round, [p, p, q, q], True)
                self.judged(all_round, [p, p, p, q], True)

    def test_all_small_ones_by_the_circle(self):
        answers = set()
        for p, q, r, s in itertools.combinations(SMALL_PLACES[:10], 4):
            answer = self.by_centre(p, q, r, s)
            answers.add(answer)
            self.judged(all_round, [p, q, r, s], answer)
        self.assertEqual(answers, {True, False})

    def by_centre(self, p, q, r, s):
        """Whether the fourth is as far as the others from the place that is as far from all three."""
        (px, py), (qx, qy), (rx, ry) = numbers(p), numbers(q), numbers(r)
        both = 2 * ((qx - px) * (ry - py) - (qy - py) * (rx - px))
        if both == 0:
            a, b, c = through(p, q)
            x, y = numbers(s)
            return a * x + b * y == c
        one, other = square_of(p, q), square_of(p, r)
        x = px + (one * (ry - py) - other * (qy - py)) / both
        y = py + (other * (qx - px) - one * (rx - px)) / both
        return square_of(s, place(x, y)) == square_of(p, place(x, y))

    def test_near_misses(self):
        four = [place(GREAT * x, GREAT * y) for x, y in [(1, 0), (0, 1), (-1, 0), (0, -1)]]
        self.judged(all_round, four, True)
        for at in range(4):
            for x, y in [(1, 0), (-1, 0), (0, 1), (0, -1), (0, Fraction(1, GREAT))]:
                near = four[:at] + [moved(four[at], x, y)] + four[at + 1:]
                self.judged(all_round, near, False)

    def test_great_numbers(self):
        chance = random.Random(141)
        for figures in (9, 40, 60):
            centre, p, q = (some_place(chance, figures) for one in range(3))
            line = through(centre, q)
            four = [p, turned(p, centre), mirror(p, line), beyond(p, centre)]
            self.judged(all_round, four, True)
            self.judged(all_round, four[:3] + [moved(four[3], 1, 0)], False)
            self.judged(all_round, four[:3] + [q], False)
            cut = line_cuts(through(p, turned(p, centre)), about(centre, p))[1]
            self.judged(all_round, [four[2], four[3]] + cut, True)


class AsFar(Judged):
    def told(self, four, answer):
        """Either two places the other way about, and both pairs in either order."""
        p, q, r, s = four
        for order in [(p, q, r, s), (q, p, r, s), (p, q, s, r), (q, p, s, r), (r, s, p, q), (s, r, q, p)]:
            self.assertIs(as_far(*order), answer, order)

    def test_ordinary_ones(self):
        self.told([place(0, 0), place(3, 4), place(1, 1), place(6, 1)], True)
        self.told([place(0, 0), place(3, 4), place(1, 1), place(1, -4)], True)
        self.told([place(0, 0), place(3, 4), place(1, 1), place(1, -3)], False)
        self.told([place(0, 0), place(1, 1), place(5, 5), place(4, 6)], True)
        self.told([place(0, 0), place(1, 1), place(0, 0), place(2, 0)], False)
        self.told([place(0, 0), place(Fraction(1, 2), 0), place(7, Fraction(1, 6)), place(7, Fraction(2, 3))], True)
        self.told([place(0, 0), place(0, Fraction(1, 2)), place(0, 0), place(0, Fraction(1, 3))], False)

    def test_places_alike(self):
        for p in PLACES:
            for r in PLACES:
                self.told([p, p, r, r], True)
                self.told([p, r, p, r], True)
                self.told([p, p, p, r], p == r)

    def test_all_small_ones(self):
        for p, q, r in itertools.combinations(SMALL_PLACES, 3):
            self.told([p, q, q, r], square_of(p, q) == square_of(q, r))
            self.told([p, q, r, place(0, 0)], square_of(p, q) == square_of(r, place(0, 0)))

    def test_near_misses(self):
        for size in (5, 10 ** 20, GREAT):
            four = [place(0, 0), place(3 * size, 4 * size), place(1, 1), place(1 + 5 * size, 1)]
            self.told(four, True)
            for at in range(4):
                self.told(four[:at] + [moved(four[at], 1, 0)] + four[at + 1:], False)

    def test_great_numbers(self):
        chance = random.Random(142)
        for figures in (9, 40, 60):
            p, q, r = (some_place(chance, figures) for one in range(3))
            self.told([p, q, q, turned(p, q)], True)
            self.told([p, q, beyond(p, q), q], True)
            self.told([p, middle(p, q), q, middle(p, q)], True)
            self.told([p, r, mirror(p, through(q, r)), r], True)
            self.told([p, q, q, moved(turned(p, q), 0, 1)], False)
            self.told([p, q, q, r], False)


if __name__ == "__main__":
    unittest.main()
