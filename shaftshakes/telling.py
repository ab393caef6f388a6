"""How points are told: knots by polynomials with short numbers, where there are such."""

from shaftshakes.factors import is_long, short_factors
from shaftshakes.places import sign_at_place

# Polynomials of a degree above it come only of what was passed and may then be told as they are.
MOST_DEGREE = 40


def told_points(places):
    """Return the tuple of the points of ascending places, those of all real roots of a polynomial."""
    knots = [place for place in places if place.polynomial]
    if not knots:
        return tuple([place.told for place in places])
    polynomial = knots[0].polynomial
    if not is_long(polynomial) or len(polynomial) > MOST_DEGREE + 1:
        return tuple([place.told for place in places])
    short = {}
    for factor in short_factors(polynomial):
        count = 0
        for knot in knots:
            if sign_at_place(factor, knot) == 0:
                short[knot.told] = (factor, count)
                count += 1
    return tuple([short[place.told] if place.polynomial else place.told for place in places])
