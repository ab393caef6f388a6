"""Roots with how often they come, and how many of them lie where, all of them being real."""

from shaftshakes.algebra import derivative
from shaftshakes.cells import moved
from shaftshakes.divisors import divisor_of_both
from shaftshakes.places import real_places, sign_at_place
from shaftshakes.rationals import count_changes
from shaftshakes.telling import told_points


def repeated_parts(polynomial):
    """Return the polynomials that have the roots that come twice or oftener, three times, and so on.

    Each is the common divisor of the one before it and its derivative.
    """
    parts = []
    part = divisor_of_both(polynomial, derivative(polynomial))
    while len(part) > 1:
        parts.append(part)
        part = divisor_of_both(part, derivative(part))
    return parts


def roots_with_times(polynomial):
    """Return the ascending list of (POINT, TIMES) of all real roots of a polynomial other than ()."""
    parts = repeated_parts(polynomial)
    places = real_places(polynomial)
    found = []
    for place, point in zip(places, told_points(places)):
        times = 1
        for part in parts:
            if sign_at_place(part, place) != 0:
                break
            times += 1
        found.append((point, times))
    return found


def roots_told_often(polynomial):
    """Return the ascending list of the points of all real roots, each as often as it comes."""
    return [point for point, times in roots_with_times(polynomial) for _ in range(times)]


def roots_below_and_at(polynomial, fraction):
    """Return how many roots, all of them real, are below a fraction and how often it is one.

    Roots are counted as often as they come. Where all are real, just as many are above 0 as there
    are sign changes in the numbers.
    """
    top, bottom = fraction
    numbers = []
    scale = 1
    for number in reversed(polynomial):
        numbers.append(number * scale)
        scale *= bottom
    row = moved(numbers[::-1], top)
    equal = 0
    while row[equal] == 0:
        equal += 1
    return (len(row) - 1 - equal - count_changes(row), equal)


def count_roots_below(polynomial, fraction):
    """Return how many roots, all of them real, are below a fraction, counted as often as they come."""
    return roots_below_and_at(polynomial, fraction)[0]


def has_root_within(polynomial, low, high):
    """Tell whether a polynomial, all of whose roots are real, has one from low up to high."""
    below, equal = roots_below_and_at(polynomial, high)
    return below + equal > count_roots_below(polynomial, low)
