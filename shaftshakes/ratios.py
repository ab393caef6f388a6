"""Ratios of polynomials: pairs (NUM, DEN) without a common root, as answers are told."""

from shaftshakes.algebra import fraction_value, shrunk, thinned_together, whole_quotient
from shaftshakes.divisors import divisor_of_both
from shaftshakes.rationals import divided


def lowest_ratio(num, den):
    """Return num / den, neither (), thinned together, without a common root, the lead of den above 0."""
    shared = divisor_of_both(num, den)
    num, den = thinned_together(whole_quotient(num, shared), whole_quotient(den, shared))
    return (num, den) if den[-1] > 0 else (shrunk(num, -1), shrunk(den, -1))


def ratio_at(ratio, fraction):
    """Return the value of a ratio at a fraction; None where it is endless."""
    num, den = ratio
    bottom = fraction_value(den, fraction)
    if bottom[0] == 0:
        return None
    return divided(fraction_value(num, fraction), bottom)
