"""Stirs: what an order does to a swing, as sums A + B * root 3 + i * (C + D * root 3), without checks."""

from math import lcm

from shaftshakes.algebra import blend, content, product_of, shrunk
from shaftshakes.places import sign_at_place
from shaftshakes.rationals import sign_of
from shaftshakes.runs import run_parts

TWELFTHS = 12
# Twice the cosine of each whole twelfth of a turn is the first number and the second one times root 3.
DOUBLED_COSINES = ((2, 0), (0, 1), (1, 0), (0, 0), (-1, 0), (0, -1),
                   (-2, 0), (0, -1), (-1, 0), (0, 0), (1, 0), (0, 1))
QUARTER = 3


def thinned_all(polynomials):
    """Return the tuple of polynomials divided by the divisor that all their numbers share; () stays ()."""
    shared = 0
    for polynomial in polynomials:
        shared = content((shared,) + polynomial)
    return tuple([shrunk(polynomial, shared) for polynomial in polynomials])


def pushes_of(engine):
    """Return for each crank its weight times its disc's angle, all times the same number above 0."""
    line, cranks = engine
    angles = run_parts(line)[0]
    scale = 1
    for disc, _, weight in cranks:
        scale = lcm(scale, angles[disc][1] * weight[1])
    pushes = []
    for disc, _, weight in cranks:
        turn, bottom = angles[disc]
        pushes.append(blend(turn, weight[0] * (scale // (bottom * weight[1])), (), 0))
    return thinned_all(pushes)


def twelfths_of(engine):
    """Return the tuple of the twelfths of all cranks."""
    return tuple([twelfth for _, twelfth, _ in engine[1]])


def stir_of(pushes, twelfths, order):
    """Return the tuple (A, B, C, D) of the sum of the pushes, doubled, each turned by its phase."""
    parts = [(), (), (), ()]
    for push, twelfth in zip(pushes, twelfths):
        turns = order * twelfth
        cosine = DOUBLED_COSINES[turns % TWELFTHS]
        sine = DOUBLED_COSINES[(turns - QUARTER) % TWELFTHS]
        parts = [blend(part, 1, push, times) for part, times in zip(parts, cosine + sine)]
    return tuple(parts)


def sign_with_root(plain, rooted, place):
    """Return the sign of plain + rooted * root 3 at a place."""
    sign = sign_at_place(plain, place)
    rooted_sign = sign_at_place(rooted, place)
    if sign * rooted_sign >= 0:
        return sign_of(sign + rooted_sign)
    apart = blend(product_of(plain, plain), 1, product_of(rooted, rooted), -3)
    return sign * sign_at_place(apart, place)


def is_stir(parts, place):
    """Tell whether a stir (A, B, C, D) is not 0 at a place."""
    return sign_with_root(parts[0], parts[1], place) != 0 or sign_with_root(parts[2], parts[3], place) != 0


def size_of(parts):
    """Return (PLAIN, ROOTED): PLAIN + ROOTED * root 3 is the square of the size of a stir."""
    plain, rooted = (), ()
    for first, second in (parts[:2], parts[2:]):
        plain = blend(plain, 1, product_of(first, first), 1)
        plain = blend(plain, 1, product_of(second, second), 3)
        rooted = blend(rooted, 1, product_of(first, second), 2)
    return (plain, rooted)


def compare_sizes(parts, other_parts, place):
    """Return the sign of the size of a stir less that of another one at a place."""
    plain, rooted = size_of(parts)
    other_plain, other_rooted = size_of(other_parts)
    return sign_with_root(blend(plain, 1, other_plain, -1), blend(rooted, 1, other_rooted, -1), place)
