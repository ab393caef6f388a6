"""Whole numbers and fractions: pairs (n, m) without a common divisor, m above 0."""

from math import gcd


def is_whole(value):
    """Tell whether a value is a whole number; True and False are none."""
    return isinstance(value, int) and not isinstance(value, bool)


def is_fraction(value):
    """Tell whether a value, whatever it is, is a fraction."""
    if not isinstance(value, tuple) or len(value) != 2:
        return False
    top, bottom = value
    if not is_whole(top) or not is_whole(bottom):
        return False
    return bottom > 0 and gcd(top, bottom) == 1


def lowest(top, bottom):
    """Return top / bottom as a fraction; bottom is above 0."""
    shared = gcd(top, bottom)
    return (top // shared, bottom // shared)


def sign_of(number):
    """Return 1, 0 or -1 for a whole number above 0, for 0, for one below 0."""
    if number > 0:
        return 1
    if number < 0:
        return -1
    return 0


def count_changes(numbers):
    """Return the number of sign changes in a row, noughts passed over."""
    changes = 0
    last = 0
    for number in numbers:
        sign = sign_of(number)
        if sign != 0:
            if sign == -last:
                changes += 1
            last = sign
    return changes


def compare_fractions(first, second):
    """Return the sign of the first fraction less the second one."""
    return sign_of(first[0] * second[1] - second[0] * first[1])


def middle(first, second):
    """Return the fraction half way from the first one to the second one."""
    return lowest(first[0] * second[1] + second[0] * first[1], 2 * first[1] * second[1])


def inverse_modulo(number, modulus):
    """Return the inverse of a number that has no common divisor with the modulus."""
    above, below = modulus, number % modulus
    above_times, below_times = 0, 1
    while below:
        times, rest = divmod(above, below)
        above, below = below, rest
        above_times, below_times = below_times, above_times - times * below_times
    return above_times % modulus


def added(first, second):
    """Return the sum of two fractions."""
    return lowest(first[0] * second[1] + second[0] * first[1], first[1] * second[1])


def subtracted(first, second):
    """Return the first fraction less the second one."""
    return lowest(first[0] * second[1] - second[0] * first[1], first[1] * second[1])


def multiplied(first, second):
    """Return the product of two fractions."""
    return lowest(first[0] * second[0], first[1] * second[1])


def divided(first, second):
    """Return the first fraction divided by the second one, which is not 0."""
    top, bottom = first[0] * second[1], first[1] * second[0]
    return lowest(top, bottom) if bottom > 0 else lowest(-top, -bottom)


def is_fraction_from_nought(value):
    """Tell whether a value, whatever it is, is a fraction from 0 on."""
    return is_fraction(value) and value[0] >= 0


def is_amount(value):
    """Tell whether a value, whatever it is, is a fraction above 0."""
    return is_fraction(value) and value[0] > 0


def is_index(value, size):
    """Tell whether a value, whatever it is, is a whole number from 0 on and below the size."""
    return is_whole(value) and 0 <= value < size


def is_span(low, high):
    """Tell whether two values, whatever they are, are fractions from 0 on, the second one greater."""
    if not is_fraction_from_nought(low) or not is_fraction_from_nought(high):
        return False
    return compare_fractions(low, high) < 0


def is_sign(value):
    """Tell whether a value, whatever it is, is one of the whole numbers 1, 0 and -1."""
    return is_whole(value) and -1 <= value <= 1
