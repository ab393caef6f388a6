"""Read back: the line that answers so, number by number, by dividing polynomials."""

from shaftshakes.algebra import blend, fraction_value, raised, thinned_together
from shaftshakes.answers import answer_pair
from shaftshakes.divisors import divisor_of_both
from shaftshakes.errors import InvalidFraction, InvalidPolynomial
from shaftshakes.lines import MOST_DISCS, check_line
from shaftshakes.polynomials import is_polynomial
from shaftshakes.ratios import lowest_ratio
from shaftshakes.rationals import divided, is_fraction_from_nought, lowest, subtracted

NOUGHT = (0, 1)


def check_not_nought(given):
    """Raise InvalidPolynomial for what is no polynomial, and for ()."""
    if not is_polynomial(given) or not given:
        raise InvalidPolynomial(given)


def check_stay(given):
    """Raise InvalidFraction for what is no fraction from 0 on."""
    if not is_fraction_from_nought(given):
        raise InvalidFraction(given)


def divided_once(num, den):
    """Return (J, s, REST) with den = num * (s - L * J) + REST / (the lead of num, squared)."""
    lead = num[-1]
    square = lead * lead
    first = den[-1] * lead
    rest = blend(den, square, raised(num), -first)
    second = rest[len(num) - 1] // lead if len(rest) >= len(num) else 0
    rest = blend(rest, 1, num, -second)
    return (divided((-den[-1], 1), (lead, 1)), lowest(second, square), rest)


def read_back(num, den, stay):
    """Return the line with this first stiffness whose first disc answers num / den; None if there is none."""
    num, den = lowest_ratio(num, den)
    if len(den) > MOST_DISCS + 1:
        return None
    discs, shafts = [], [stay]
    while True:
        if len(den) != len(num) + 1:
            return None
        inertia, left, rest = divided_once(num, den)
        stiffness = subtracted(left, stay)
        if inertia[0] <= 0 or stiffness[0] < 0:
            return None
        discs.append(inertia)
        shafts.append(stiffness)
        if not rest:
            return (tuple(discs), tuple(shafts))
        if stiffness[0] == 0:
            return None
        # H' = - REST / (K_1 * (K_1 * NUM + REST)), all times the same number above 0.
        top, bottom = stiffness
        below = blend(num, top * top * num[-1] * num[-1], rest, top * bottom)
        num, den = thinned_together(blend(rest, -bottom * bottom, (), 0), below)
        stay = NOUGHT


def line_of_answer(num, den, wall):
    """Return the line with this first stiffness whose first disc answers num / den; None if there is none."""
    check_not_nought(num)
    check_not_nought(den)
    check_stay(wall)
    return read_back(num, den, wall)


def greatest_stay(num, den):
    """Return the greatest first stiffness of lines that answer so; None if there are none."""
    check_not_nought(num)
    check_not_nought(den)
    if read_back(num, den, NOUGHT) is None:
        return None
    num, den = lowest_ratio(num, den)
    return divided(fraction_value(den, NOUGHT), fraction_value(num, NOUGHT))


def rewalled(line, wall):
    """Return the line with this first stiffness that answers at its first disc as the line does, or None."""
    check_line(line)
    check_stay(wall)
    num, den = answer_pair(line, 0, 0)
    return read_back(num, den, wall)


def line_of_paces(free, held):
    """Return the line with these paces, the first end free and the first disc held; None if there is none."""
    check_not_nought(free)
    check_not_nought(held)
    # A root that both have is none that lies between two neighbouring ones of the other.
    if len(divisor_of_both(free, held)) > 1:
        return None
    return read_back(blend(held, -free[-1], (), 0), blend(free, held[-1], (), 0), NOUGHT)
