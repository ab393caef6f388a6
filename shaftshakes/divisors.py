"""Common divisors of polynomials and the plain polynomial.

The divisor is first sought modulo a great prime, where numbers do not grow. What is found so
is taken only if it divides both polynomials: as a divisor modulo a prime that divides neither
lead has at least the degree of the true one, it is then the true one.
"""

from shaftshakes.algebra import blend, content, derivative, reduced, thinned, trimmed, whole_quotient
from shaftshakes.rationals import inverse_modulo

# 2 multiplied so many times, less 1, is a prime (Mersenne's); greater ones hold greater numbers.
PRIME_BITS = (127, 521, 1279, 2203, 4253, 9689, 19937, 44497)


def rest_modulo(polynomial, divisor, modulus):
    """Return a multiple of what is left of the polynomial by the divisor, modulo a prime."""
    rests = list(polynomial)
    lead = divisor[-1]
    size = len(divisor)
    while len(rests) >= size:
        times = rests.pop()
        if times == 0:
            continue
        rests = [number * lead % modulus for number in rests]
        start = len(rests) - size + 1
        for step in range(size - 1):
            rests[start + step] = (rests[start + step] - times * divisor[step]) % modulus
    return trimmed(rests)


def divisor_modulo(first, second, modulus):
    """Return a common divisor of the greatest degree, modulo a prime."""
    above = trimmed([number % modulus for number in first])
    below = trimmed([number % modulus for number in second])
    while below:
        if len(above) < len(below):
            above, below = below, above
        above, below = below, rest_modulo(above, below, modulus)
    return above


def guessed_divisor(first, second, modulus):
    """Return the common divisor of two reduced polynomials; None if this prime does not tell it."""
    if first[-1] % modulus == 0 or second[-1] % modulus == 0:
        return None
    found = divisor_modulo(first, second, modulus)
    if len(found) == 1:
        return (1,)
    lead = content((first[-1], second[-1]))
    times = lead * inverse_modulo(found[-1], modulus) % modulus
    centred = []
    for number in found:
        number = number * times % modulus
        centred.append(number - modulus if 2 * number > modulus else number)
    guess = reduced(tuple(centred))
    if whole_quotient(first, guess) is None or whole_quotient(second, guess) is None:
        return None
    return guess


def divisor_by_rests(first, second):
    """Return the common divisor of two polynomials, not both (), by Euclid's rests."""
    while second:
        if len(first) < len(second):
            first, second = second, first
        rest = first
        while len(rest) >= len(second):
            shifted = (0,) * (len(rest) - len(second)) + second
            rest = blend(rest, second[-1], shifted, -rest[-1])
        first, second = second, (thinned(rest) if rest else ())
    return reduced(first)


def divisor_of_both(first, second):
    """Return the common divisor of two polynomials, not both ()."""
    if not first or not second:
        return reduced(first or second)
    first, second = reduced(first), reduced(second)
    for bits in PRIME_BITS:
        found = guessed_divisor(first, second, (1 << bits) - 1)
        if found is not None:
            return found
    return divisor_by_rests(first, second)


def plain_of(polynomial):
    """Return the plain polynomial of one other than ()."""
    polynomial = reduced(polynomial)
    shared = divisor_of_both(polynomial, derivative(polynomial))
    return whole_quotient(polynomial, shared)
