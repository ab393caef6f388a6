"""Polynomials with whole numbers, the constant first, as plain arithmetic without checks."""

from math import gcd

from shaftshakes.rationals import lowest, sign_of


def trimmed(numbers):
    """Return the polynomial of a row of numbers, noughts at its end dropped."""
    size = len(numbers)
    while size > 0 and numbers[size - 1] == 0:
        size -= 1
    return tuple(numbers[:size])


def blend(first, times, second, other_times):
    """Return the sum of two polynomials, each times a whole number."""
    sums = [times * number for number in first]
    sums.extend([0] * (len(second) - len(first)))
    for place, number in enumerate(second):
        sums[place] += other_times * number
    return trimmed(sums)


def product_of(first, second):
    """Return the product of two polynomials."""
    if not first or not second:
        return ()
    sums = [0] * (len(first) + len(second) - 1)
    for place, number in enumerate(first):
        for step, other_number in enumerate(second):
            sums[place + step] += number * other_number
    return tuple(sums)


def raised(polynomial):
    """Return the polynomial times its variable."""
    if not polynomial:
        return ()
    return (0,) + polynomial


def derivative(polynomial):
    """Return the derivative."""
    return tuple([place * number for place, number in enumerate(polynomial)][1:])


def content(polynomial):
    """Return the greatest common divisor of all numbers, 0 for ()."""
    shared = 0
    for number in polynomial:
        shared = gcd(shared, number)
        if shared == 1:
            return 1
    return shared


def shrunk(polynomial, divisor):
    """Return the polynomial divided by a whole number that divides all its numbers."""
    return tuple([number // divisor for number in polynomial])


def thinned(polynomial):
    """Return the polynomial, not (), divided by the divisor that all its numbers share."""
    return shrunk(polynomial, content(polynomial))


def thinned_together(first, second):
    """Return two polynomials, not both (), divided by the divisor that all their numbers share."""
    shared = content(first + second)
    return (shrunk(first, shared), shrunk(second, shared))


def reduced(polynomial):
    """Return the polynomial, not (), thinned and with a positive lead."""
    shared = content(polynomial)
    return shrunk(polynomial, -shared if polynomial[-1] < 0 else shared)


def whole_quotient(polynomial, divisor):
    """Return the quotient of two polynomials, not (); None if it is none with whole numbers."""
    rests = list(polynomial)
    lead = divisor[-1]
    degree = len(divisor) - 1
    quotient = []
    for place in range(len(polynomial) - 1 - degree, -1, -1):
        times, left = divmod(rests[place + degree], lead)
        if left:
            return None
        quotient.append(times)
        for step, number in enumerate(divisor):
            rests[place + step] -= times * number
    if any(rests):
        return None
    return tuple(quotient[::-1])


def scaled_value(polynomial, top, bottom):
    """Return the value at top / bottom times bottom as often as the degree tells; 0 for ()."""
    value = 0
    scale = 1
    for number in reversed(polynomial):
        value = value * top + number * scale
        scale *= bottom
    return value


def dyadic_value(polynomial, top, bits):
    """Return what scaled_value returns for a bottom that is 2, multiplied `bits` times."""
    value = 0
    shift = 0
    for number in reversed(polynomial):
        value = value * top + (number << shift)
        shift += bits
    return value


def fraction_sign(polynomial, fraction):
    """Return the sign of the polynomial at a fraction."""
    return sign_of(scaled_value(polynomial, fraction[0], fraction[1]))


def fraction_value(polynomial, fraction):
    """Return the value of the polynomial at a fraction, as a fraction."""
    scale = 1
    for _ in polynomial[1:]:
        scale *= fraction[1]
    return lowest(scaled_value(polynomial, fraction[0], fraction[1]), scale)


def span_sign(polynomial, low, high, bits):
    """Return the sign of the polynomial from low up to high, halved `bits` times; 0 if unsettled.

    The bounds are those of interval arithmetic, so 0 may be returned although the sign is settled.
    """
    least, most = 0, 0
    shift = 0
    for number in reversed(polynomial):
        ends = (least * low, least * high, most * low, most * high)
        least = min(ends) + (number << shift)
        most = max(ends) + (number << shift)
        shift += bits
    if least > 0:
        return 1
    if most < 0:
        return -1
    return 0
