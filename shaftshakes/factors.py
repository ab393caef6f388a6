"""Factors with short numbers of polynomials with long ones.

A root may be told by each polynomial that has it; a factor often has shorter numbers. Factors are
found modulo a prime, then modulo its squares (Hensel), until numbers that are short are settled
by what they are there; what is found so is taken only if it divides the polynomial.
"""

from itertools import combinations

from shaftshakes.algebra import blend, reduced, whole_quotient
from shaftshakes.fractionroots import fitting_prime
from shaftshakes.modular import bezout_modulo, divided_modulo, factors_modulo, modulo
from shaftshakes.modular import monic_modulo, product_modulo

# The least number of more than 400 figures.
LONG = (10 ** 50) ** 8

# So many primes are tried; the one with the fewest factors is taken.
MOST_PRIMES = 5

# So many products of factors are tried.
MOST_TRIES = 2000


def is_long(polynomial):
    """Tell whether a polynomial has numbers of more than 400 figures."""
    return any([abs(number) >= LONG for number in polynomial])


def lifted_pair(polynomial, first, second, prime, modulus):
    """Return the two factors modulo the modulus that are the told ones modulo the prime.

    All have the lead 1; the modulus is the prime squared again and again.
    """
    first_times, second_times = bezout_modulo(first, second, prime)
    reached = prime
    while reached < modulus:
        reached = reached * reached
        error = modulo(blend(polynomial, 1, product_modulo(first, second, reached), -1), reached)
        quotient, rest = divided_modulo(product_modulo(first_times, error, reached), second, reached)
        more = blend(product_modulo(second_times, error, reached), 1, product_modulo(quotient, first, reached), 1)
        first = modulo(blend(first, 1, more, 1), reached)
        second = modulo(blend(second, 1, rest, 1), reached)
        both = blend(product_modulo(first_times, first, reached), 1, product_modulo(second_times, second, reached), 1)
        error = modulo(blend(both, 1, (1,), -1), reached)
        quotient, rest = divided_modulo(product_modulo(first_times, error, reached), second, reached)
        less = blend(product_modulo(second_times, error, reached), 1, product_modulo(quotient, first, reached), 1)
        first_times = modulo(blend(first_times, 1, rest, -1), reached)
        second_times = modulo(blend(second_times, 1, less, -1), reached)
    return (first, second)


def product_of_all(factors, modulus):
    """Return the product of polynomials, modulo the modulus."""
    product = (1,)
    for factor in factors:
        product = product_modulo(product, factor, modulus)
    return product


def lifted_factors(polynomial, factors, prime, modulus):
    """Return the factors of a polynomial with the lead 1, modulo the modulus, told modulo the prime."""
    if len(factors) == 1:
        return [polynomial]
    half = len(factors) // 2
    first = product_of_all(factors[:half], prime)
    second = product_of_all(factors[half:], prime)
    first, second = lifted_pair(polynomial, first, second, prime, modulus)
    firsts = lifted_factors(first, factors[:half], prime, modulus)
    return firsts + lifted_factors(second, factors[half:], prime, modulus)


def best_factors(polynomial):
    """Return a small prime and the factors modulo it, as few as a few primes give."""
    best = None
    prime = 1
    for _ in range(MOST_PRIMES):
        prime = fitting_prime(polynomial, prime + 1)
        factors = factors_modulo(polynomial, prime)
        if best is None or len(factors) < len(best[1]):
            best = (prime, factors)
    return best


def short_bottom(number, modulus):
    """Return the bottom of the fraction of short numbers that a number is, modulo; None if it is none."""
    above, below = modulus, number % modulus
    above_times, below_times = 0, 1
    while below >= LONG:
        times, rest = divmod(above, below)
        above, below = below, rest
        above_times, below_times = below_times, above_times - times * below_times
    return abs(below_times) if abs(below_times) < LONG else None


def short_polynomial(polynomial, modulus):
    """Return the short polynomial that is, but for a factor, the told one, modulo; None if it is none."""
    scale = 1
    for number in polynomial:
        bottom = short_bottom(number * scale, modulus)
        if bottom is None or bottom * scale >= LONG:
            return None
        scale *= bottom
    numbers = []
    for number in polynomial:
        number = number * scale % modulus
        numbers.append(number - modulus if 2 * number > modulus else number)
    return None if is_long(numbers) else reduced(tuple(numbers))


def next_factor(polynomial, pieces, modulus):
    """Return a short factor and the places of the pieces that make it; None if none is found."""
    tries = 0
    for size in range(1, len(pieces)):
        for chosen in combinations(range(len(pieces)), size):
            tries += 1
            if tries > MOST_TRIES:
                return None
            found = short_polynomial(product_of_all([pieces[place] for place in chosen], modulus), modulus)
            if found is not None and whole_quotient(polynomial, found) is not None:
                return (found, chosen)
    return None


def short_factors(polynomial):
    """Return factors of a plain polynomial, with itself as their product, short as far as possible."""
    prime, factors = best_factors(polynomial)
    modulus = prime
    while modulus <= 2 * LONG * LONG:
        modulus = modulus * modulus
    pieces = lifted_factors(monic_modulo(polynomial, modulus), factors, prime, modulus)
    found = []
    while is_long(polynomial):
        following = next_factor(polynomial, pieces, modulus)
        if following is None:
            break
        factor, chosen = following
        found.append(factor)
        polynomial = whole_quotient(polynomial, factor)
        pieces = [piece for place, piece in enumerate(pieces) if place not in chosen]
    return found + [polynomial]
