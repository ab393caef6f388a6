"""Polynomials modulo a whole number: products, quotients by such with the lead 1, factors."""

from shaftshakes.algebra import blend, product_of, raised, trimmed
from shaftshakes.divisors import divisor_modulo
from shaftshakes.rationals import inverse_modulo


def modulo(polynomial, modulus):
    """Return the polynomial with its numbers from 0 on and below the modulus."""
    return trimmed([number % modulus for number in polynomial])


def monic_modulo(polynomial, modulus):
    """Return the polynomial times the number that makes its lead 1."""
    times = inverse_modulo(polynomial[-1], modulus)
    return modulo([number * times for number in polynomial], modulus)


def product_modulo(first, second, modulus):
    """Return the product of two polynomials."""
    return modulo(product_of(first, second), modulus)


def divided_modulo(polynomial, divisor, modulus):
    """Return the quotient by a divisor with the lead 1, and what is left."""
    rests = list(polynomial)
    quotient = []
    while len(rests) >= len(divisor):
        times = rests.pop() % modulus
        quotient.append(times)
        start = len(rests) + 1 - len(divisor)
        for step in range(len(divisor) - 1):
            rests[start + step] -= times * divisor[step]
    return (trimmed(quotient[::-1]), modulo(rests, modulus))


def bezout_modulo(first, second, prime):
    """Return s and t with s times the first polynomial and t times the second one together 1."""
    rows = [(first, (1,), ()), (second, (), (1,))]
    while rows[1][0]:
        above, below = rows
        lead = inverse_modulo(below[0][-1], prime)
        below = tuple([modulo([number * lead for number in part], prime) for part in below])
        quotient, rest = divided_modulo(above[0], below[0], prime)
        left = [modulo(blend(above[place], 1, product_modulo(quotient, below[place], prime), -1), prime)
                for place in (1, 2)]
        rows = [below, (rest, left[0], left[1])]
    return (rows[0][1], rows[0][2])


def null_rows(rows, prime):
    """Return independent combinations of rows, as many numbers as rows, that are 0 altogether."""
    pivots = {}
    found = []
    for place, row in enumerate(rows):
        both = list(row) + [1 if step == place else 0 for step in range(len(rows))]
        for column in range(len(rows)):
            if both[column] == 0:
                continue
            if column not in pivots:
                times = inverse_modulo(both[column], prime)
                pivots[column] = [number * times % prime for number in both]
                break
            times = both[column]
            both = [(number - times * other) % prime for number, other in zip(both, pivots[column])]
        else:
            found.append(trimmed(both[len(rows):]))
    return found


def fixed_polynomials(polynomial, prime):
    """Return independent polynomials that are their own powers with the prime as the exponent.

    There are as many as factors, modulo the prime and the polynomial with the lead 1 (Berlekamp).
    """
    size = len(polynomial) - 1
    step = (1,)
    for _ in range(prime):
        step = divided_modulo(raised(step), polynomial, prime)[1]
    rows = []
    power = (1,)
    for place in range(size):
        row = list(power) + [0] * (size - len(power))
        row[place] = (row[place] - 1) % prime
        rows.append(row)
        power = divided_modulo(product_modulo(power, step, prime), polynomial, prime)[1]
    return null_rows(rows, prime)


def factors_modulo(polynomial, prime):
    """Return the irreducible factors, with the leads 1, of a polynomial without a double root."""
    factors = [monic_modulo(polynomial, prime)]
    for fixed in fixed_polynomials(factors[0], prime):
        if len(fixed) > 1:
            factors = [part for factor in factors for part in split_modulo(factor, fixed, prime)]
    return factors


def split_modulo(factor, fixed, prime):
    """Return the parts of a factor in which a fixed polynomial is one number each."""
    parts = []
    for number in range(prime):
        part = divisor_modulo(factor, blend(fixed, 1, (number,), -1), prime)
        if len(part) > 1:
            parts.append(monic_modulo(part, prime))
    return parts
