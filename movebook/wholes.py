"""What is reckoned of whole numbers alone."""


def common_divisor(one, other):
    """The greatest number that divides both; 0 where both are 0."""
    one, other = abs(one), abs(other)
    while other != 0:
        one, other = other, one % other
    return one


def whole_root(number):
    """The greatest whole number whose square is not above number, which is not below 0."""
    # The first guess lies above the root, and each later one never below it,
    # so the first guess whose square is not above the number is the root.
    guess = 1 << ((number.bit_length() + 1) // 2)
    while guess * guess > number:
        guess = (guess + number // guess) // 2
    return guess
