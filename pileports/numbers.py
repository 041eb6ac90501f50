"""Divisors, multiples and common remainders; numbers that are read from texts."""

from pileports.errors import BadRemainder

MOST_DIGITS = 31


def is_number(value):
    """Return whether a value is an integer that is neither True nor False."""
    return isinstance(value, int) and not isinstance(value, bool)


def read_number(text, most_digits=MOST_DIGITS):
    """Return the number that a text writes in decimal, with at most so many digits, or None for any other text."""
    digits = text[1:] if text.startswith("-") else text
    # Python refuses to convert very long texts, so the length is tested before int is called.
    if len(digits) == 0 or len(digits) > most_digits:
        return None
    for digit in digits:
        if digit not in "0123456789":
            return None
    if digits.startswith("0") and text != "0":
        return None
    return int(text)


def greatest_divisor(one, other):
    """Return the greatest common divisor of two numbers; 0 if both are 0."""
    one = abs(one)
    other = abs(other)
    while other != 0:
        one, other = other, one % other
    return one


def least_multiple(*numbers):
    """Return the least common multiple of positive numbers; 1 for none."""
    multiple = 1
    for number in numbers:
        multiple = multiple // greatest_divisor(multiple, number) * number
    return multiple


def common_rounds(remainders):
    """Return the pair (r, m) of all numbers that have the remainders of a list of pairs, or None."""
    for at, (remainder, modulus) in enumerate(remainders):
        if modulus < 1 or remainder < 0 or remainder >= modulus:
            raise BadRemainder(at)
    common = (0, 1)
    for pair in remainders:
        common = both_remainders(common, pair)
        if common is None:
            return None
    return common


def both_remainders(one, other):
    """Return the pair (r, m) of the numbers that have two remainders, or None if there are none."""
    first, modulus = one
    second, divided = other
    divisor, factor = divisor_and_factor(modulus, divided)
    if (second - first) % divisor != 0:
        return None
    steps = (second - first) // divisor * factor % (divided // divisor)
    return (first + modulus * steps, modulus // divisor * divided)


def divisor_and_factor(number, modulus):
    """Return the pair (d, f): d is the greatest common divisor, and number * f is d by the modulus."""
    # Euclid's steps; factor and later hold what number is multiplied by to give rest and divisor.
    rest, divisor = number % modulus, modulus
    factor, later = 1, 0
    while rest != 0:
        times = divisor // rest
        divisor, rest = rest, divisor - times * rest
        later, factor = factor, later - times * factor
    return (divisor, later)
