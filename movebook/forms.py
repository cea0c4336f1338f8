"""Forms: tuples of terms (powers, number), no number 0, the terms rising by their powers."""

from movebook.errors import Nought
from movebook.fracs import fraction


def gathered(many, terms):
    """The form in so many unknowns that has the sum of the terms' worths."""
    return summed(terms)


def added(form, other):
    """The sum of two forms."""
    return summed([*form, *other])


def taken(form, other):
    """The first form less the second."""
    return added(form, scaled(other, -1))


def scaled(form, number):
    """The form times a whole number."""
    return summed([(powers, number * one) for powers, one in form])


def multiplied(form, other):
    """The product of two forms."""
    if not form or not other:
        return ()
    # With the powers packed into one number, a product of terms is a sum of two numbers.
    base = greatest_power(form) + greatest_power(other) + 1
    right = packed(other, base)
    numbers = {}
    for key, one in packed(form, base):
        for other_key, two in right:
            numbers[key + other_key] = numbers.get(key + other_key, 0) + one * two
    many = len(form[0][0])
    return tuple([(unpacked(key, base, many), numbers[key]) for key in sorted(numbers) if numbers[key] != 0])


def put_in(form, at, number):
    """The form with the number put in for the unknown numbered at."""
    grown = powers_of(number, greatest_power(form))
    return summed([((*powers[:at], 0, *powers[at + 1:]), one * grown[powers[at]]) for powers, one in form])


def worth(form, numbers):
    """The worth of the form, a fraction, with a fraction put for each unknown."""
    most = greatest_power(form)
    tops = [powers_of(number[0], most) for number in numbers]
    bottoms = [powers_of(number[1], most) for number in numbers]
    total = 0
    for powers, number in form:
        # Each unknown brings its bottom to the greatest power, so that all terms have one bottom.
        term = number
        for top, bottom, power in zip(tops, bottoms, powers):
            term *= top[power] * bottom[most - power]
        total += term
    common = 1
    for bottom in bottoms:
        common *= bottom[most]
    return fraction(total, common)


def off_nought(many, forms):
    """A list of whole numbers, one for each unknown, with which no form's worth is nought."""
    for place, form in enumerate(forms):
        if not form:
            raise Nought(place)
    left = list(forms)
    numbers = []
    for at in range(many):
        number = least_off(left, at)
        numbers.append(number)
        left = [put_in(form, at, number) for form in left]
    return numbers


def summed(terms):
    """The form of a list of terms in any order, some perhaps alike, some perhaps 0."""
    numbers = {}
    for powers, number in terms:
        numbers[powers] = numbers.get(powers, 0) + number
    return tuple([(powers, numbers[powers]) for powers in sorted(numbers) if numbers[powers] != 0])


def greatest_power(form):
    """The greatest power of any unknown in the form; 0 where there is none."""
    return max([max(powers, default=0) for powers, number in form], default=0)


def powers_of(number, most):
    """The number to the powers 0 to most, a list."""
    grown = [1]
    for power in range(most):
        grown.append(grown[-1] * number)
    return grown


def packed(form, base):
    """The terms with their powers as the figures of one number; base is above each power."""
    return [(joined(powers, base), number) for powers, number in form]


def joined(powers, base):
    """The number whose figures are the powers, the first one foremost, so that both have one order."""
    key = 0
    for power in powers:
        key = key * base + power
    return key


def unpacked(key, base, many):
    """The powers, so many, that are the figures of the number."""
    powers = []
    for at in range(many):
        powers.append(key % base)
        key = key // base
    return tuple(powers[::-1])


def least_off(forms, at):
    """The least number with which, put in for the unknown numbered at, no form becomes nought."""
    split = [columns(form, at) for form in forms]
    most = max([greatest_power(form) for form in forms], default=0)
    number = 0
    # Each number that is passed over brings a form to nought, and none has more such than its greatest power.
    while brings_nought(split, powers_of(number, most)):
        number += 1
    return number


def columns(form, at):
    """The form's terms as lists of (power of the unknown, number), one for all terms with the same other powers."""
    found = {}
    for powers, number in form:
        rest = (*powers[:at], *powers[at + 1:])
        found.setdefault(rest, []).append((powers[at], number))
    return list(found.values())


def brings_nought(split, grown):
    """Whether the number that has grown as its powers brings one of the forms, so split, to nought."""
    for parts in split:
        if all_nought(parts, grown):
            return True
    return False


def all_nought(parts, grown):
    """Whether all columns of a form are nought; the first that is not ends the search."""
    for column in parts:
        if sum([number * grown[power] for power, number in column]) != 0:
            return False
    return True
