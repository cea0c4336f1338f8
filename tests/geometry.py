"""What the tests of places, lines and circles share: samples, and checks by Python's own fractions."""

import random
from fractions import Fraction
from math import gcd

from limits import Limited

GREAT = 10 ** 60 - 1


def whole(chance, figures):
    """A whole number of at most so many figures, above or below nought."""
    return chance.randrange(1 - 10 ** figures, 10 ** figures)


def pair(number):
    """A number as the program's fraction."""
    number = Fraction(number)
    return (number.numerator, number.denominator)


def number(one):
    """The program's fraction as a number of Python's."""
    return Fraction(one[0], one[1])


def place(x, y):
    return (pair(x), pair(y))


def numbers(p):
    """The two numbers of a place, or the three of a circle."""
    return tuple(number(one) for one in p)


def ring(x, y, s):
    return (pair(x), pair(y), pair(s))


def some_number(chance, figures):
    return Fraction(whole(chance, figures), abs(whole(chance, figures)) + 1)


def some_place(chance, figures):
    return place(some_number(chance, figures), some_number(chance, figures))


def some_line(chance, figures):
    """A line in its one form, made apart from the program."""
    a, b, c = whole(chance, figures), whole(chance, figures), whole(chance, figures)
    return formed(a, b or 1, c)


def formed(a, b, c):
    divisor = gcd(a, b, c)
    if a < 0 or (a == 0 and b < 0):
        divisor = -divisor
    return (a // divisor, b // divisor, c // divisor)


def square_of(p, q):
    """The square of the distance of two places."""
    (px, py), (qx, qy) = numbers(p), numbers(q)
    return (px - qx) ** 2 + (py - qy) ** 2


SMALL_PLACES = [place(x, y) for x in (-2, 0, Fraction(1, 2), 3) for y in (-1, 0, Fraction(5, 3), 2)]
GREAT_PLACES = [
    place(GREAT, -GREAT), place(Fraction(1, GREAT), 0), place(0, Fraction(-1, GREAT)),
    place(Fraction(GREAT, GREAT - 1), Fraction(-GREAT, GREAT - 1)), place(Fraction(GREAT - 1, GREAT), GREAT - 2),
] + [some_place(random.Random(figures), figures) for figures in (9, 20, 40, 59, 60)]
PLACES = SMALL_PLACES + GREAT_PLACES
LINES = [(1, 0, 0), (0, 1, 0), (1, 0, 3), (0, 1, -2), (2, 0, 1), (0, 3, 5), (1, 1, 0), (1, -1, 0), (3, 4, 25),
         (2, -5, 7), (6, 10, 15), (GREAT, 0, 1), (0, GREAT, -1), (1, 0, GREAT), (GREAT, 1 - GREAT, 1),
         some_line(random.Random(7), 20), some_line(random.Random(8), 40), some_line(random.Random(9), 60)]


class Drawn(Limited):
    """Checks that what is told is of the kind that the document tells of."""

    def assert_fraction(self, told):
        self.assertIs(type(told), tuple)
        self.assertEqual([type(part) for part in told], [int, int])
        self.assertGreaterEqual(told[1], 1)
        self.assertEqual(gcd(told[0], told[1]), 1)

    def assert_place(self, told):
        self.assertIs(type(told), tuple)
        self.assertEqual(len(told), 2)
        for one in told:
            self.assert_fraction(one)

    def assert_place_at(self, told, x, y):
        self.assert_place(told)
        self.assertEqual(told, place(x, y))

    def assert_line(self, told):
        self.assertIs(type(told), tuple)
        self.assertEqual([type(part) for part in told], [int, int, int])
        self.assertEqual(gcd(*told), 1)
        self.assertTrue(told[0] > 0 or (told[0] == 0 and told[1] > 0), told)

    def assert_on_line(self, p, line):
        x, y = numbers(p)
        self.assertEqual(line[0] * x + line[1] * y, line[2])

    def assert_on_ring(self, p, circle):
        x, y = numbers(p)
        centre_x, centre_y, s = numbers(circle)
        self.assertEqual((x - centre_x) ** 2 + (y - centre_y) ** 2, s)
