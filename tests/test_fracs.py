"""Fractions: points 4 and 5, and point 2 for the numbers that are handed in."""

import random
import unittest
from math import gcd, isqrt

from limits import Limited
from movebook.errors import BookError, NoNumber
from movebook.fracs import fraction, less, minus, over, plus, root, times

GREAT = 10 ** 60 - 1
NOUGHT = (0, 1)


def whole(chance, figures):
    """A whole number above nought of just so many figures."""
    return chance.randrange(10 ** (figures - 1), 10 ** figures)


def lowest(top, bottom):
    """The fraction by Python's own divisor, apart from the program."""
    divisor = gcd(top, bottom) * (1 if bottom > 0 else -1)
    return (top // divisor, bottom // divisor)


def samples():
    """Fractions of many sizes: nought, whole, of parts, below and above nought, opposite."""
    chance = random.Random(45)
    some = [NOUGHT, (1, 1), (1, 2), (2, 1), (1, 3), (2, 3), (3, 2), (5, 6), (7, 12), (12, 7), (9, 4), (1000, 1)]
    some += [(GREAT, 1), (1, GREAT), (GREAT, GREAT - 1), (GREAT - 1, GREAT), (GREAT - 2, GREAT - 1)]
    for figures in [1, 2, 5, 9, 20, 40, 59, 60]:
        some.append(lowest(whole(chance, figures), whole(chance, figures)))
        some.append(lowest(whole(chance, figures), whole(chance, 3)))
        some.append(lowest(whole(chance, 3), whole(chance, figures)))
    return some + [(-top, bottom) for top, bottom in some if top != 0]


SAMPLES = samples()


class Fractions(Limited):
    def assert_fraction(self, told, top, bottom):
        """That told is a fraction, and that it is top divided by bottom."""
        self.assertIs(type(told), tuple)
        self.assertEqual(len(told), 2)
        self.assertIs(type(told[0]), int)
        self.assertIs(type(told[1]), int)
        self.assertGreaterEqual(told[1], 1)
        self.assertEqual(gcd(told[0], told[1]), 1)
        self.assertEqual(told[0] * bottom, top * told[1])

    def assert_refused(self, asked, *handed):
        for catcher in [NoNumber, BookError, ValueError]:
            with self.assertRaises(catcher) as caught:
                asked(*handed)
            self.assertIs(type(caught.exception), NoNumber)


class Making(Fractions):
    def test_lowest_terms(self):
        for handed, told in [((6, 4), (3, 2)), ((4, 6), (2, 3)), ((5, 5), (1, 1)), ((10, 5), (2, 1)),
                             ((5, 10), (1, 2)), ((7, 1), (7, 1)), ((1, 7), (1, 7)), ((12, 18), (2, 3)),
                             ((2 ** 100, 2 ** 98), (4, 1)), ((3 ** 50, 3 ** 52), (1, 9))]:
            self.assertEqual(fraction(*handed), told)

    def test_both_signs(self):
        for top, bottom, told in [(6, 4, (3, 2)), (-6, 4, (-3, 2)), (6, -4, (-3, 2)), (-6, -4, (3, 2)),
                                  (1, -1, (-1, 1)), (-1, -1, (1, 1)), (-7, 12, (-7, 12)), (7, -12, (-7, 12))]:
            self.assertEqual(fraction(top, bottom), told)

    def test_nought(self):
        for bottom in [1, -1, 2, -2, 5, 12, -12, 10 ** 40, -10 ** 59, GREAT, -GREAT]:
            told = fraction(0, bottom)
            self.assertEqual(told, NOUGHT)
            self.assert_fraction(told, 0, bottom)

    def test_all_small_ones(self):
        for top in range(-30, 31):
            for bottom in range(-30, 31):
                if bottom != 0:
                    told = fraction(top, bottom)
                    self.assert_fraction(told, top, bottom)
                    for number in range(2, 31):
                        self.assertFalse(told[0] % number == 0 and told[1] % number == 0)

    def test_great_numbers_with_a_great_common_divisor(self):
        chance = random.Random(4)
        for figures in range(40, 61):
            for shared in [figures // 3, figures // 2, figures - 10, figures - 2]:
                divisor = whole(chance, shared)
                one, other = lowest(whole(chance, figures - shared), whole(chance, figures - shared))
                for sign in [1, -1]:
                    for turn in [1, -1]:
                        told = fraction(sign * one * divisor, turn * other * divisor)
                        self.assertEqual(told, (sign * turn * one, other))
                        self.assert_fraction(told, sign * one * divisor, turn * other * divisor)

    def test_great_numbers_with_a_small_common_divisor(self):
        chance = random.Random(44)
        for figures in range(40, 61):
            top, bottom = whole(chance, figures), whole(chance, figures)
            for divisor in [1, 2, 3, 7, 97]:
                self.assert_fraction(fraction(top * divisor, bottom * divisor), top, bottom)
                self.assert_fraction(fraction(-top * divisor, bottom * divisor), -top, bottom)

    def test_great_numbers_alike_and_neighbours(self):
        self.assertEqual(fraction(GREAT, GREAT), (1, 1))
        self.assertEqual(fraction(GREAT, -GREAT), (-1, 1))
        self.assertEqual(fraction(GREAT, GREAT - 1), (GREAT, GREAT - 1))
        self.assertEqual(fraction(1 - GREAT, -GREAT), (GREAT - 1, GREAT))
        self.assertEqual(fraction(GREAT, 1), (GREAT, 1))
        self.assertEqual(fraction(1, -GREAT), (-1, GREAT))

    def test_neighbours_of_the_golden_row_are_quick(self):
        one, other = 1, 1
        while other < GREAT:
            one, other = other, one + other
            self.assertEqual(fraction(one, other), (one, other))

    def test_a_fraction_made_of_a_fraction_is_itself(self):
        for sample in SAMPLES:
            self.assertEqual(fraction(*sample), sample)

    def test_bottom_nought_is_refused(self):
        for top in [0, 1, -1, 2, 7, -12, 10 ** 40, GREAT, -GREAT]:
            self.assert_refused(fraction, top, 0)

    def test_a_refusal_changes_nothing(self):
        self.assert_refused(fraction, 3, 0)
        self.assertEqual(fraction(3, 6), (1, 2))


class Reckoning(Fractions):
    def test_ordinary_ones(self):
        self.assertEqual(plus((1, 2), (1, 3)), (5, 6))
        self.assertEqual(plus((1, 2), (1, 2)), (1, 1))
        self.assertEqual(plus((1, 2), (-1, 2)), NOUGHT)
        self.assertEqual(minus((1, 2), (1, 3)), (1, 6))
        self.assertEqual(minus((1, 3), (1, 2)), (-1, 6))
        self.assertEqual(minus((1, 2), (1, 2)), NOUGHT)
        self.assertEqual(times((2, 3), (3, 4)), (1, 2))
        self.assertEqual(times((-2, 3), (3, 2)), (-1, 1))
        self.assertEqual(times((-2, 3), NOUGHT), NOUGHT)
        self.assertEqual(over((1, 2), (1, 3)), (3, 2))
        self.assertEqual(over((1, 2), (-1, 3)), (-3, 2))
        self.assertEqual(over((-1, 2), (-1, 3)), (3, 2))
        self.assertEqual(over(NOUGHT, (-1, 3)), NOUGHT)

    def test_sum_across(self):
        for one in SAMPLES:
            for other in SAMPLES:
                self.assert_fraction(plus(one, other), one[0] * other[1] + other[0] * one[1], one[1] * other[1])

    def test_difference_across(self):
        for one in SAMPLES:
            for other in SAMPLES:
                self.assert_fraction(minus(one, other), one[0] * other[1] - other[0] * one[1], one[1] * other[1])

    def test_product_across(self):
        for one in SAMPLES:
            for other in SAMPLES:
                self.assert_fraction(times(one, other), one[0] * other[0], one[1] * other[1])

    def test_quotient_across(self):
        for one in SAMPLES:
            for other in SAMPLES:
                if other != NOUGHT:
                    self.assert_fraction(over(one, other), one[0] * other[1], one[1] * other[0])

    def test_alike_and_opposite(self):
        for top, bottom in SAMPLES:
            self.assertEqual(minus((top, bottom), (top, bottom)), NOUGHT)
            self.assertEqual(plus((top, bottom), (-top, bottom)), NOUGHT)
            if top != 0:
                self.assertEqual(over((top, bottom), (top, bottom)), (1, 1))
                self.assertEqual(over((top, bottom), (-top, bottom)), (-1, 1))

    def test_quotient_by_nought_is_refused(self):
        for sample in SAMPLES:
            self.assert_refused(over, sample, NOUGHT)

    def test_what_was_told_is_handed_in_again(self):
        for one in SAMPLES:
            for other in SAMPLES[-12:]:
                product = times(one, other)
                self.assertEqual(over(product, other), one)
                self.assertEqual(minus(plus(product, other), other), product)
                square = times(product, product)
                self.assert_fraction(square, product[0] * product[0], product[1] * product[1])
                self.assertEqual(fraction(*square), square)


class Less(Fractions):
    def test_ordinary_ones(self):
        for one, other in [((1, 3), (1, 2)), ((-1, 2), (-1, 3)), ((-1, 2), NOUGHT), (NOUGHT, (1, 9)),
                           ((-5, 1), (1, 100)), ((2, 3), (3, 4)), ((1, 2), (1, 1)), ((9, 1), (10, 1))]:
            self.assertIs(less(one, other), True)
            self.assertIs(less(other, one), False)

    def test_across_both_ways_about(self):
        for one in SAMPLES:
            for other in SAMPLES:
                self.assertIs(less(one, other), one[0] * other[1] - other[0] * one[1] < 0)
                self.assertIs(less(other, one), other[0] * one[1] - one[0] * other[1] < 0)

    def test_of_equal_ones_it_is_false(self):
        for top, bottom in SAMPLES:
            self.assertIs(less((top, bottom), (top, bottom)), False)

    def test_near_ones_of_sixty_figures(self):
        for near in [10 ** 59, 10 ** 40, GREAT - 10]:
            one, other = (near, near + 1), (near + 1, near + 2)
            self.assertIs(less(one, other), True)
            self.assertIs(less(other, one), False)
            one, other = (-near, near + 1), (-near - 1, near + 2)
            self.assertIs(less(one, other), False)
            self.assertIs(less(other, one), True)


class Roots(Fractions):
    def assert_root(self, square, told):
        self.assertEqual(root(square), told)
        self.assert_fraction(root(square), told[0], told[1])

    def test_ordinary_ones(self):
        for square, told in [((4, 9), (2, 3)), ((1, 4), (1, 2)), ((9, 1), (3, 1)), ((1, 1), (1, 1)),
                             ((49, 144), (7, 12)), ((100, 1), (10, 1)), ((1, 100), (1, 10))]:
            self.assert_root(square, told)

    def test_nought(self):
        self.assert_root(NOUGHT, NOUGHT)

    def test_none_where_there_is_none(self):
        for one in [(2, 1), (1, 2), (3, 1), (2, 3), (8, 1), (4, 3), (3, 4), (8, 9), (9, 8), (5, 4), (10, 1), (1, 10)]:
            self.assertIsNone(root(one))

    def test_below_nought_there_is_none(self):
        for top, bottom in [(1, 1), (4, 1), (1, 4), (4, 9), (2, 3), (GREAT, 1), (1, GREAT), (10 ** 58, 1)]:
            self.assertIsNone(root((-top, bottom)))

    def test_all_small_ones(self):
        squares = {number * number: number for number in range(60)}
        for number in range(3000):
            if number in squares:
                self.assert_root((number, 1), (squares[number], 1))
            else:
                self.assertIsNone(root((number, 1)))
            if number > 0 and number in squares:
                self.assert_root((1, number), (1, squares[number]))
            elif number > 0:
                self.assertIsNone(root((1, number)))

    def test_squares_of_all_samples(self):
        for sample in SAMPLES:
            self.assert_root(times(sample, sample), (abs(sample[0]), sample[1]))

    def test_squares_of_up_to_thirty_figures(self):
        chance = random.Random(5)
        for figures in range(1, 31):
            for many in [figures, 1, 30]:
                top, bottom = lowest(whole(chance, figures), whole(chance, many))
                self.assert_root((top * top, bottom * bottom), (top, bottom))

    def test_neighbours_of_squares(self):
        chance = random.Random(55)
        numbers = [whole(chance, figures) for figures in range(2, 31) for again in range(3)]
        numbers += [2 ** power for power in range(1, 100)] + [2 ** power - 1 for power in range(2, 100)]
        numbers += [10 ** power for power in range(1, 30)] + [10 ** power - 1 for power in range(1, 31)]
        for number in numbers:
            square = number * number
            self.assert_root((square, 1), (number, 1))
            self.assert_root((1, square), (1, number))
            for near in [square - 1, square + 1]:
                self.assertIsNone(root((near, 1)))
                self.assertIsNone(root((1, near)))
                self.assertIsNone(root((near, square)))
                self.assertIsNone(root((square, near)))

    def test_sixty_figures_with_and_without_a_root(self):
        chance = random.Random(555)
        for again in range(2000):
            top, bottom = lowest(whole(chance, 60), whole(chance, 60))
            if isqrt(top) ** 2 != top or isqrt(bottom) ** 2 != bottom:
                self.assertIsNone(root((top, bottom)))
            top, bottom = lowest(whole(chance, 30), whole(chance, 30))
            self.assertEqual(root((top * top, bottom * bottom)), (top, bottom))

    def test_what_was_told_is_handed_in_again(self):
        for sample in SAMPLES:
            square = times(sample, sample)
            self.assert_root(times(square, square), square)
            if sample != NOUGHT:
                self.assertIsNone(root(times(times(square, square), (2, 1))))


if __name__ == "__main__":
    unittest.main()
