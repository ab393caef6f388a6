"""Points: fractions, and knots for those real roots that are none."""

from shaftshakes.errors import InvalidFraction, InvalidPoint, Nought, Same
from shaftshakes.places import compare_places, fraction_between_places, fraction_place
from shaftshakes.places import fractions_around, knot_cells, knot_place, real_places, sign_at_place
from shaftshakes.polynomials import check_polynomial, is_polynomial
from shaftshakes.rationals import is_fraction, is_whole
from shaftshakes.telling import told_points


def read_point(value, known):
    """Return the place of a value, whatever it is; None if it is no point.

    known keeps the cells of the polynomials of knots that were met before.
    """
    if is_fraction(value):
        return fraction_place(value)
    if not isinstance(value, tuple) or len(value) != 2:
        return None
    polynomial, index = value
    if not is_polynomial(polynomial) or not is_whole(index):
        return None
    if polynomial not in known:
        known[polynomial] = knot_cells(polynomial)
    cells = known[polynomial]
    if index < 0 or index >= len(cells):
        return None
    return knot_place(value, cells[index])


def check_point(given, known):
    """Return the place of a point; raise InvalidPoint for what is none."""
    place = read_point(given, known)
    if place is None:
        raise InvalidPoint(given)
    return place


def is_knot(value):
    """Tell whether a value, whatever it is, is a knot."""
    return not is_fraction(value) and read_point(value, {}) is not None


def is_point(value):
    """Tell whether a value, whatever it is, is a point."""
    return read_point(value, {}) is not None


def roots_of(polynomial):
    """Return the ascending tuple of the points of all different real roots."""
    check_polynomial(polynomial)
    if not polynomial:
        raise Nought()
    return told_points(real_places(polynomial))


def sign_at(polynomial, point):
    """Return the sign of the polynomial at a point."""
    check_polynomial(polynomial)
    return sign_at_place(polynomial, check_point(point, {}))


def compare_points(point, other):
    """Return the sign of the first point less the second one."""
    known = {}
    first = check_point(point, known)
    return compare_places(first, check_point(other, known))


def fraction_between(point, other):
    """Return a fraction between two unlike points, whichever is greater."""
    known = {}
    first = check_point(point, known)
    second = check_point(other, known)
    sign = compare_places(first, second)
    if sign == 0:
        raise Same(other)
    if sign > 0:
        first, second = second, first
    return fraction_between_places(first, second)


def enclosed(point, fraction):
    """Return a pair of fractions around a point that differ by at most a fraction above 0."""
    place = check_point(point, {})
    if not is_fraction(fraction) or fraction[0] <= 0:
        raise InvalidFraction(fraction)
    return fractions_around(place, fraction)
