"""Forms with unknowns: points 40 to 42."""

import itertools
import random
import time
import unittest
from fractions import Fraction

from geometry import number, pair
from limits import Limited
from movebook.errors import Nought
from movebook.forms import added, gathered, multiplied, off_nought, put_in, taken, worth


def worth_of(terms, numbers):
    """The sum over the terms, by Python's own fractions."""
    total = Fraction(0)
    for powers, one in terms:
        part = Fraction(one)
        for base, power in zip(numbers, powers):
            part *= base ** power
        total += part
    return total


def some_terms(chance, many, terms, power=4, size=9):
    return [(tuple(chance.randrange(power + 1) for at in range(many)), chance.randrange(-size, size + 1))
            for at in range(terms)]


def some_numbers(chance, many):
    return [Fraction(chance.randrange(-6, 7), chance.randrange(1, 5)) for at in range(many)]


def one_unknown(*numbers):
    """The form in one unknown with these numbers, the one without the unknown first."""
    return tuple(((power,), one) for power, one in enumerate(numbers) if one)


class Formed(Limited):
    def assert_form(self, form, many):
        self.assertIs(type(form), tuple)
        for term in form:
            self.assertIs(type(term), tuple)
            powers, one = term
            self.assertIs(type(powers), tuple)
            self.assertEqual(len(powers), many)
            self.assertTrue(all(type(power) is int and power >= 0 for power in powers), form)
            self.assertIs(type(one), int)
            self.assertNotEqual(one, 0)
        rising = [powers for powers, one in form]
        self.assertEqual(rising, sorted(set(rising)))


class Gathered(Formed):
    def test_terms_alike_and_numbers_nought_in_any_order(self):
        terms = [((2, 0), 3), ((0, 1), -1), ((2, 0), 4), ((1, 1), 0), ((0, 1), 1), ((0, 0), 5)]
        for order in itertools.permutations(terms):
            given = list(order)
            self.assertEqual(gathered(2, given), (((0, 0), 5), ((2, 0), 7)))
            self.assertEqual(given, list(order))

    def test_nought(self):
        self.assertEqual(gathered(3, []), ())
        self.assertEqual(gathered(1, [((4,), 0), ((0,), 0)]), ())
        self.assertEqual(gathered(1, [((4,), 2), ((4,), 3), ((4,), -5)]), ())

    def test_no_unknowns_at_all(self):
        self.assertEqual(gathered(0, []), ())
        self.assertEqual(gathered(0, [((), 4)]), (((), 4),))
        self.assertEqual(gathered(0, [((), 4), ((), -1), ((), 0)]), (((), 3),))
        self.assertEqual(gathered(0, [((), 4), ((), -4)]), ())

    def test_terms_rise_as_python_orders_tuples(self):
        terms = [((power, other), 1) for power in (12, 0, 3) for other in (2, 11, 0)]
        self.assertEqual([powers for powers, one in gathered(2, terms)], sorted(powers for powers, one in terms))

    def test_by_chance(self):
        chance = random.Random(1)
        for many in range(7):
            for turn in range(30):
                terms = some_terms(chance, many, chance.randrange(40), 2)
                form = gathered(many, terms)
                self.assert_form(form, many)
                for numbers in [some_numbers(chance, many) for each in range(3)]:
                    self.assertEqual(worth_of(form, numbers), worth_of(terms, numbers))
                chance.shuffle(terms)
                self.assertEqual(gathered(many, terms), form)
                self.assertEqual(gathered(many, list(form)), form)

    def test_great_numbers(self):
        great = 10 ** 60 - 1
        self.assertEqual(gathered(1, [((12,), great), ((12,), great)]), (((12,), 2 * great),))


class Reckoned(Formed):
    def test_sums_differences_and_products(self):
        x, y = gathered(2, [((1, 0), 1)]), gathered(2, [((0, 1), 1)])
        self.assertEqual(added(x, y), (((0, 1), 1), ((1, 0), 1)))
        self.assertEqual(taken(x, y), (((0, 1), -1), ((1, 0), 1)))
        self.assertEqual(multiplied(x, y), (((1, 1), 1),))
        self.assertEqual(multiplied(added(x, y), taken(x, y)), (((0, 2), -1), ((2, 0), 1)))

    def test_what_becomes_nought(self):
        form = gathered(2, [((1, 0), 3), ((0, 4), -2), ((0, 0), 1)])
        self.assertEqual(taken(form, form), ())
        self.assertEqual(added(form, taken((), form)), ())
        self.assertEqual(multiplied(form, ()), ())
        self.assertEqual(multiplied((), form), ())
        self.assertEqual((added((), ()), taken((), ()), multiplied((), ())), ((), (), ()))
        self.assertEqual((added(form, ()), added((), form), taken(form, ())), (form, form, form))

    def test_terms_that_cancel_in_a_product(self):
        self.assertEqual(multiplied(one_unknown(1, 1), one_unknown(1, -1)), one_unknown(1, 0, -1))
        self.assertEqual(multiplied(one_unknown(1, 1, 1), one_unknown(-1, 1)), one_unknown(-1, 0, 0, 1))

    def test_no_unknowns_at_all(self):
        three, four = (((), 3),), (((), 4),)
        self.assertEqual((added(three, four), taken(three, four), multiplied(three, four)),
                         ((((), 7),), (((), -1),), (((), 12),)))
        self.assertEqual(taken(three, three), ())
        self.assertEqual(worth(three, []), (3, 1))
        self.assertEqual(worth((), []), (0, 1))
        self.assertEqual((off_nought(0, [three, four]), off_nought(0, [])), ([], []))

    def test_by_chance(self):
        chance = random.Random(2)
        for many in range(7):
            for turn in range(20):
                one = gathered(many, some_terms(chance, many, chance.randrange(12), 3))
                other = gathered(many, some_terms(chance, many, chance.randrange(12), 5))
                results = added(one, other), taken(one, other), multiplied(one, other)
                for form in results:
                    self.assert_form(form, many)
                for numbers in [some_numbers(chance, many) for each in range(3)]:
                    a, b = worth_of(one, numbers), worth_of(other, numbers)
                    self.assertEqual([worth_of(form, numbers) for form in results], [a + b, a - b, a * b])
                self.assertEqual(results[0], added(other, one))
                self.assertEqual(results[2], multiplied(other, one))
                self.assertEqual(taken(results[0], other), one)

    def test_the_widest_that_are_handed_in_in_good_time(self):
        chance = random.Random(3)
        one = gathered(6, some_terms(chance, 6, 60, 12, 10 ** 60 - 1))
        other = gathered(6, some_terms(chance, 6, 60, 12, 10 ** 60 - 1))
        start = time.process_time()
        square = multiplied(one, other)
        fourth = multiplied(square, one)
        self.assert_form(fourth, 6)
        self.assertLess(time.process_time() - start, 10)
        numbers = [1, -1, 1, 2, 1, -1]
        self.assertEqual(worth_of(fourth, numbers), worth_of(one, numbers) ** 2 * worth_of(other, numbers))


class PutIn(Formed):
    def test_the_power_becomes_nought(self):
        form = gathered(3, [((2, 1, 0), 3), ((0, 1, 0), -12), ((0, 0, 5), 1)])
        self.assertEqual(put_in(form, 0, 3), (((0, 0, 5), 1), ((0, 1, 0), 15)))
        self.assertEqual(put_in(form, 0, 2), (((0, 0, 5), 1),))
        self.assertEqual(put_in(form, 0, -2), (((0, 0, 5), 1),))
        self.assertEqual(put_in(form, 0, 0), (((0, 0, 5), 1), ((0, 1, 0), -12)))
        self.assertEqual(put_in(form, 2, -1), (((0, 0, 0), -1), ((0, 1, 0), -12), ((2, 1, 0), 3)))
        self.assertEqual(put_in(form, 1, 0), (((0, 0, 5), 1),))

    def test_nought(self):
        self.assertEqual(put_in((), 0, 5), ())
        self.assertEqual(put_in(one_unknown(-6, 1, 1), 0, 2), ())
        self.assertEqual(put_in(one_unknown(-6, 1, 1), 0, -3), ())
        self.assertEqual(put_in(one_unknown(0, 1), 0, 0), ())

    def test_an_unknown_that_is_not_there(self):
        form = gathered(2, [((2, 0), 3), ((1, 0), 1)])
        self.assertEqual(put_in(form, 1, 77), form)

    def test_by_chance(self):
        chance = random.Random(4)
        for many in range(1, 7):
            for turn in range(30):
                form = gathered(many, some_terms(chance, many, chance.randrange(20), 3))
                place = chance.randrange(many)
                for whole in (0, 1, -1, -2, 3, 10 ** 60 - 1, 1 - 10 ** 60):
                    told = put_in(form, place, whole)
                    self.assert_form(told, many)
                    self.assertTrue(all(powers[place] == 0 for powers, one in told))
                    numbers = some_numbers(chance, many)
                    there = numbers[:place] + [Fraction(whole)] + numbers[place + 1:]
                    self.assertEqual(worth_of(told, numbers), worth_of(form, there))


class Worth(Formed):
    def test_with_fractions(self):
        form = gathered(2, [((2, 0), 3), ((1, 1), -1), ((0, 0), 5)])
        self.assertEqual(worth(form, [(1, 2), (2, 3)]), pair(Fraction(3, 4) - Fraction(1, 3) + 5))
        self.assertEqual(worth(form, [(0, 1), (2, 3)]), (5, 1))
        self.assertEqual(worth(form, [(-1, 2), (2, 3)]), pair(Fraction(3, 4) + Fraction(1, 3) + 5))

    def test_nought_to_the_power_nought_is_one(self):
        self.assertEqual(worth(one_unknown(7), [(0, 1)]), (7, 1))
        self.assertEqual(worth(gathered(2, [((0, 3), 2)]), [(0, 1), (2, 1)]), (16, 1))
        self.assertEqual(worth(gathered(2, [((1, 3), 2)]), [(0, 1), (2, 1)]), (0, 1))

    def test_nought_has_the_worth_nought_everywhere(self):
        for numbers in ([], [(3, 7)], [(0, 1), (-5, 2)]):
            self.assertEqual(worth((), numbers), (0, 1))

    def test_by_chance(self):
        chance = random.Random(5)
        for many in range(7):
            for turn in range(40):
                form = gathered(many, some_terms(chance, many, chance.randrange(25), 12 if turn % 2 else 3, 10 ** 9))
                numbers = some_numbers(chance, many)
                handed = [pair(one) for one in numbers]
                kept = list(handed)
                self.assertEqual(worth(form, handed), pair(worth_of(form, numbers)))
                self.assertEqual(handed, kept)

    def test_great_numbers_in_good_time(self):
        chance = random.Random(6)
        form = gathered(6, some_terms(chance, 6, 60, 12, 10 ** 60 - 1))
        numbers = [Fraction(chance.randrange(10 ** 60), chance.randrange(1, 10 ** 60)) for at in range(6)]
        start = time.process_time()
        told = worth(form, [pair(one) for one in numbers])
        self.assertLess(time.process_time() - start, 5)
        self.assertEqual(told, pair(worth_of(form, numbers)))


def greatest(form):
    return max((power for powers, one in form for power in powers), default=0)


def with_roots(many, place, roots):
    """The form that is nought just where the unknown of that place is one of the roots."""
    form = gathered(many, [((0,) * many, 1)])
    unknown = tuple(int(at == place) for at in range(many))
    for root in roots:
        form = multiplied(form, gathered(many, [(unknown, 1), ((0,) * many, -root)]))
    return form


class OffNought(Formed):
    def assert_off(self, many, forms):
        handed = list(forms)
        told = off_nought(many, handed)
        self.assertEqual(handed, list(forms))
        self.assertIs(type(told), list)
        self.assertEqual([type(one) for one in told], [int] * many)
        most = sum(greatest(form) for form in forms)
        self.assertTrue(all(0 <= one <= most for one in told), (told, most))
        for form in forms:
            self.assertNotEqual(worth_of(form, told), 0)

    def test_ordinary_lists(self):
        self.assert_off(1, [one_unknown(0, 1)])
        self.assert_off(1, [one_unknown(0, 1), one_unknown(-1, 1), one_unknown(-2, 1)])
        self.assert_off(2, [gathered(2, [((1, 0), 1), ((0, 1), -1)])])
        self.assert_off(3, [])
        self.assert_off(2, [gathered(2, [((0, 0), 5)])])

    def test_all_the_numbers_up_to_the_sum_are_needed(self):
        for many in range(1, 7):
            for place in range(many):
                roots = with_roots(many, place, range(12))
                self.assert_off(many, [roots, with_roots(many, place, range(12, 20)), with_roots(many, place, [20])])
        self.assertEqual(off_nought(1, [one_unknown(0, 1)]), [1])
        self.assertEqual(off_nought(1, [one_unknown(0, 1), one_unknown(-1, 1), one_unknown(-2, 1)]), [3])

    def test_bounds_are_of_the_greatest_power_of_any_unknown(self):
        # A form without unknowns leaves nothing but 0.
        self.assertEqual(off_nought(3, [gathered(3, [((0, 0, 0), -1)])]), [0, 0, 0])
        self.assertEqual(off_nought(2, []), [0, 0])

    def test_nought_with_the_place_of_the_first(self):
        x = one_unknown(0, 1)
        for forms, place in [([()], 0), ([x, ()], 1), ([x, x, (), x, ()], 2), ([(), x], 0), ([x] * 59 + [()], 59)]:
            kept = list(forms)
            with self.assertRaises(Nought) as caught:
                off_nought(1, forms)
            self.assertEqual((caught.exception.number, forms), (place, kept))
        with self.assertRaises(Nought):
            off_nought(0, [()])

    def test_by_chance(self):
        chance = random.Random(7)
        for many in range(1, 7):
            for turn in range(20):
                forms = [gathered(many, some_terms(chance, many, chance.randrange(1, 8), 3, 2)) for each in range(12)]
                self.assert_off(many, [form for form in forms if form])

    def test_forms_that_are_nought_at_many_small_numbers(self):
        chance = random.Random(8)
        for turn in range(20):
            forms = []
            for each in range(6):
                form = with_roots(3, chance.randrange(3), [chance.randrange(4) for root in range(3)])
                forms.append(multiplied(form, with_roots(3, chance.randrange(3), [chance.randrange(4)])))
            self.assert_off(3, forms)

    def test_many_forms_in_good_time(self):
        start = time.process_time()
        self.assert_off(6, [with_roots(6, each % 6, range(12 * (each // 6), 12 * (each // 6) + 12)) for each in range(60)])
        self.assert_off(1, [with_roots(1, 0, range(12 * each, 12 * each + 12)) for each in range(60)])
        self.assert_off(6, [with_roots(6, 5, range(12 * each, 12 * each + 12)) for each in range(59, -1, -1)])
        chance = random.Random(9)
        self.assert_off(6, [gathered(6, some_terms(chance, 6, 60, 12, 10 ** 60 - 1)) for each in range(60)])
        products = [multiplied(with_roots(6, at, range(12 * each, 12 * each + 12)), with_roots(6, (at + 1) % 6, range(5)))
                    for at in range(6) for each in range(10)]
        self.assert_off(6, products)
        self.assertLess(time.process_time() - start, 20)


class EqualForms(Formed):
    def test_equal_just_where_their_worths_are_equal(self):
        one = multiplied(added(one_unknown(0, 1), one_unknown(1)), added(one_unknown(0, 1), one_unknown(1)))
        other = gathered(1, [((1,), 2), ((0,), 1), ((2,), 1)])
        self.assertEqual(one, other)
        self.assertEqual(number(worth(one, [(5, 3)])), Fraction(64, 9))


if __name__ == "__main__":
    unittest.main()
