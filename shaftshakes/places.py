"""Places: points with fractions around them that are brought closer together as needed."""

from shaftshakes.algebra import dyadic_value, fraction_sign, span_sign
from shaftshakes.cells import cells_of
from shaftshakes.divisors import divisor_of_both, plain_of
from shaftshakes.fractionroots import fractions_among_roots, without_fractions
from shaftshakes.rationals import compare_fractions, lowest, middle, sign_of

# After so many rounds of making a cell smaller, common divisors are asked whether numbers are the
# same. Rounds count over the life of a place, as each one may double the size of its numbers.
PATIENCE = 6


class Place:
    """A point as it is told, and, if it is a knot, a cell in which it is the only root.

    low and high, halved `bits` times, are the ends of the cell, start is the sign of the
    polynomial at the lower one, leap tells how much smaller the cell is to be made next,
    rounds how often this was done. For a fraction, the polynomial is () and the cell is not used.
    """

    def __init__(self, told, polynomial, cell):
        self.told = told
        self.polynomial = polynomial
        self.low, self.high, self.bits = cell
        self.start = sign_of(dyadic_value(polynomial, self.low, self.bits))
        self.leap = 1
        self.rounds = 0


def fraction_place(fraction):
    """Return the place of a fraction."""
    return Place(fraction, (), (0, 0, 0))


def knot_place(knot, cell):
    """Return the place of a knot with its cell."""
    return Place(knot, knot[0], cell)


def halve(place):
    """Make the cell of a knot half as wide."""
    half = place.low + place.high
    place.low *= 2
    place.high *= 2
    place.bits += 1
    if sign_of(dyadic_value(place.polynomial, half, place.bits)) == place.start:
        place.low = half
    else:
        place.high = half


def narrow(place):
    """Make the cell of a knot smaller, the more so the oftener this met the root at once.

    Of many parts of the cell that one is tried in which a straight line from end to end is 0.
    """
    place.rounds += 1
    if place.leap == 1:
        halve(place)
        place.leap = 2
        return
    width = place.high - place.low
    bits = place.bits + place.leap
    parts = 1 << place.leap
    low = place.low << place.leap
    rise = abs(dyadic_value(place.polynomial, place.low, place.bits))
    fall = abs(dyadic_value(place.polynomial, place.high, place.bits))
    step = min(max((2 * parts * rise + rise + fall) // (2 * (rise + fall)), 1), parts - 1)
    if sign_of(dyadic_value(place.polynomial, low + step * width, bits)) == place.start:
        step += 1
        met = step == parts or is_past(place, low + step * width, bits)
    else:
        met = step == 1 or not is_past(place, low + (step - 1) * width, bits)
    if met:
        place.low, place.high, place.bits = low + (step - 1) * width, low + step * width, bits
        place.leap *= 2
    else:
        halve(place)
        place.leap //= 2


def is_past(place, top, bits):
    """Tell whether a number in the cell of a knot, halved `bits` times, is above the knot."""
    return sign_of(dyadic_value(place.polynomial, top, bits)) != place.start


def compare_knot_with_fraction(place, fraction):
    """Return the sign of a knot less a fraction."""
    top = fraction[0] << place.bits
    if top <= place.low * fraction[1]:
        return 1
    if top >= place.high * fraction[1]:
        return -1
    if fraction_sign(place.polynomial, fraction) == place.start:
        return 1
    return -1


def is_below(first, second):
    """Tell whether the cell of the first knot ends where that of the second one begins, or ahead."""
    return first.high << second.bits <= second.low << first.bits


def narrow_wider(first, second):
    """Make the wider cell of two knots smaller."""
    first_width = (first.high - first.low) << second.bits
    second_width = (second.high - second.low) << first.bits
    narrow(first if first_width >= second_width else second)


def are_same_knots(first, second):
    """Tell whether two knots whose cells overlap are one number.

    They are exactly if the common divisor has a root where the cells overlap: there it can have
    no root but this one.
    """
    shared = divisor_of_both(first.polynomial, second.polynomial)
    if len(shared) == 1:
        return False
    low, low_bits = first.low, first.bits
    if second.low << first.bits > first.low << second.bits:
        low, low_bits = second.low, second.bits
    high, high_bits = first.high, first.bits
    if second.high << first.bits < first.high << second.bits:
        high, high_bits = second.high, second.bits
    low_sign = sign_of(dyadic_value(shared, low, low_bits))
    return low_sign != sign_of(dyadic_value(shared, high, high_bits))


def compare_knots(first, second):
    """Return the sign of the first knot less the second one."""
    if first.polynomial == second.polynomial:
        return sign_of(first.told[1] - second.told[1])
    asked = False
    while True:
        if is_below(first, second):
            return -1
        if is_below(second, first):
            return 1
        if not asked and first.rounds + second.rounds >= 2 * PATIENCE:
            asked = True
            if are_same_knots(first, second):
                return 0
        narrow_wider(first, second)


def compare_places(first, second):
    """Return the sign of the first place less the second one."""
    if first.polynomial and second.polynomial:
        return compare_knots(first, second)
    if first.polynomial:
        return compare_knot_with_fraction(first, second.told)
    if second.polynomial:
        return -compare_knot_with_fraction(second, first.told)
    return compare_fractions(first.told, second.told)


def sign_at_place(polynomial, place):
    """Return the sign of a polynomial at a place."""
    if not polynomial:
        return 0
    if not place.polynomial:
        return fraction_sign(polynomial, place.told)
    asked = False
    while True:
        sign = span_sign(polynomial, place.low, place.high, place.bits)
        if sign != 0:
            return sign
        if not asked and place.rounds >= PATIENCE:
            asked = True
            if is_root(polynomial, place):
                return 0
        narrow(place)


def is_root(polynomial, place):
    """Tell whether a knot is a root of a polynomial other than ()."""
    shared = divisor_of_both(polynomial, place.polynomial)
    low_sign = sign_of(dyadic_value(shared, place.low, place.bits))
    return low_sign != sign_of(dyadic_value(shared, place.high, place.bits))


def fraction_between_places(first, second):
    """Return a fraction between a place and one above it."""
    if not first.polynomial and not second.polynomial:
        return middle(first.told, second.told)
    if not first.polynomial:
        while first.told[0] << second.bits >= second.low * first.told[1]:
            narrow(second)
        return lowest(second.low, 1 << second.bits)
    if not second.polynomial:
        while first.high * second.told[1] >= second.told[0] << first.bits:
            narrow(first)
        return lowest(first.high, 1 << first.bits)
    while not is_below(first, second):
        narrow_wider(first, second)
    return lowest(first.high, 1 << first.bits)


def fractions_around(place, width):
    """Return a pair of fractions around a place that differ by at most a fraction above 0."""
    if not place.polynomial:
        top, bottom = place.told
        scale = 2 * bottom * width[1]
        centre, half = 2 * top * width[1], bottom * width[0]
        return (lowest(centre - half, scale), lowest(centre + half, scale))
    while (place.high - place.low) * width[1] > width[0] << place.bits:
        narrow(place)
    scale = 1 << place.bits
    return (lowest(place.low, scale), lowest(place.high, scale))


def knot_cells(polynomial):
    """Return the cells of the real roots if the polynomial can be that of a knot, otherwise []."""
    if len(polynomial) < 3 or plain_of(polynomial) != polynomial:
        return []
    if fractions_among_roots(polynomial):
        return []
    return cells_of(polynomial)


def real_places(polynomial):
    """Return the ascending list of the places of all different real roots of one other than ()."""
    plain = plain_of(polynomial)
    fractions = fractions_among_roots(plain)
    rest = without_fractions(plain, fractions)
    places = [knot_place((rest, index), cell) for index, cell in enumerate(cells_of(rest))]
    for fraction in fractions:
        place = fraction_place(fraction)
        below = [other for other in places if compare_places(other, place) < 0]
        places.insert(len(below), place)
    return places
