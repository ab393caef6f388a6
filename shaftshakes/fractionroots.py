"""Roots that are fractions.

A root n / m has an m that divides the lead. So the lead times the root is a whole number of a
known size: it is found modulo a small prime, and then modulo its squares, until it is settled.
"""

from shaftshakes.algebra import derivative, scaled_value, whole_quotient
from shaftshakes.divisors import divisor_modulo
from shaftshakes.rationals import inverse_modulo, lowest


def is_prime(number):
    """Tell whether a whole number above 1 is a prime."""
    factor = 2
    while factor * factor <= number:
        if number % factor == 0:
            return False
        factor += 1
    return True


def fitting_prime(polynomial, least):
    """Return the first prime from a number on that fits a plain polynomial.

    Modulo the prime it keeps its degree and has no double root.
    """
    slope = derivative(polynomial)
    prime = least
    while True:
        if is_prime(prime) and polynomial[-1] % prime != 0:
            if len(divisor_modulo(polynomial, slope, prime)) == 1:
                return prime
        prime += 1


def value_modulo(polynomial, number, modulus):
    """Return the value at a whole number, modulo another one."""
    value = 0
    for part in reversed(polynomial):
        value = (value * number + part) % modulus
    return value


def lifted_root(polynomial, root, prime, bound):
    """Return the root modulo a power of the prime above the bound, and this power."""
    slope = derivative(polynomial)
    modulus = prime
    inverse = inverse_modulo(value_modulo(slope, root, prime), prime)
    while modulus <= bound:
        modulus = modulus * modulus
        root = (root - value_modulo(polynomial, root, modulus) * inverse) % modulus
        inverse = inverse * (2 - value_modulo(slope, root, modulus) * inverse) % modulus
    return (root, modulus)


def fractions_among_roots(polynomial):
    """Return the list of those roots of a plain polynomial that are fractions, in any order."""
    if len(polynomial) < 2:
        return []
    lead = polynomial[-1]
    # No root is as great as 1 and the greatest quotient of a number and the lead.
    bound = 2 * (lead + max([abs(number) for number in polynomial]))
    prime = fitting_prime(polynomial, 2)
    found = []
    for residue in range(prime):
        if value_modulo(polynomial, residue, prime) != 0:
            continue
        root, modulus = lifted_root(polynomial, residue, prime, bound)
        top = root * lead % modulus
        if 2 * top > modulus:
            top -= modulus
        fraction = lowest(top, lead)
        if scaled_value(polynomial, fraction[0], fraction[1]) == 0:
            found.append(fraction)
    return found


def without_fractions(polynomial, fractions):
    """Return a plain polynomial without some roots that are fractions."""
    for top, bottom in fractions:
        polynomial = whole_quotient(polynomial, (-top, bottom))
    return polynomial
