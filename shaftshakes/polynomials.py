"""Polynomials: tuples of whole numbers, the constant first, the last one not 0."""

from shaftshakes.algebra import fraction_value, scaled_value, whole_quotient
from shaftshakes.divisors import divisor_of_both, plain_of
from shaftshakes.errors import InvalidFraction, InvalidPolynomial, Nought
from shaftshakes.places import compare_places, fraction_place, real_places
from shaftshakes.rationals import is_fraction, is_whole


def is_polynomial(value):
    """Tell whether a value, whatever it is, is a polynomial."""
    if not isinstance(value, tuple):
        return False
    if not all([is_whole(number) for number in value]):
        return False
    return len(value) == 0 or value[-1] != 0


def check_polynomial(given):
    """Raise InvalidPolynomial for what is no polynomial."""
    if not is_polynomial(given):
        raise InvalidPolynomial(given)


def check_fraction(given):
    """Raise InvalidFraction for what is no fraction."""
    if not is_fraction(given):
        raise InvalidFraction(given)


def value_at(polynomial, fraction):
    """Return the value of the polynomial at a fraction, as a fraction."""
    check_polynomial(polynomial)
    check_fraction(fraction)
    return fraction_value(polynomial, fraction)


def common_divisor(polynomial, other):
    """Return the common divisor of two polynomials, reduced."""
    check_polynomial(polynomial)
    check_polynomial(other)
    if not polynomial and not other:
        raise Nought()
    return divisor_of_both(polynomial, other)


def plain_polynomial(polynomial):
    """Return the reduced polynomial that has the same roots, each once."""
    check_polynomial(polynomial)
    if not polynomial:
        raise Nought()
    return plain_of(polynomial)


def times_of(polynomial, fraction):
    """Return how many times the fraction is a root of the polynomial."""
    check_polynomial(polynomial)
    check_fraction(fraction)
    if not polynomial:
        raise Nought()
    times = 0
    while scaled_value(polynomial, fraction[0], fraction[1]) == 0:
        polynomial = whole_quotient(polynomial, (-fraction[0], fraction[1]))
        times += 1
    return times


def count_roots(polynomial, low, high):
    """Return how many different real roots lie above low and below high; None sets no bound."""
    check_polynomial(polynomial)
    for bound in (low, high):
        if bound is not None:
            check_fraction(bound)
    if not polynomial:
        raise Nought()
    places = real_places(polynomial)
    if low is not None:
        bottom = fraction_place(low)
        places = [place for place in places if compare_places(place, bottom) > 0]
    if high is not None:
        top = fraction_place(high)
        places = [place for place in places if compare_places(place, top) < 0]
    return len(places)
