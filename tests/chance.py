"""Polynomials, fractions and lines of chance for the tests."""

from fractions import Fraction


def multiplied(*polynomials):
    """The product of polynomials, by the tests' own means."""
    found = (1,)
    for polynomial in polynomials:
        row = [0] * (len(found) + len(polynomial) - 1)
        for place, number in enumerate(found):
            for other, other_number in enumerate(polynomial):
                row[place + other] += number * other_number
        found = tuple(row)
    return found


def random_polynomial(chance):
    """A product of a few small polynomials, some of them several times."""
    parts = [(chance.choice([1, 2, -3, 6]),)]
    for _ in range(chance.randint(1, 3)):
        degree = chance.choice([1, 1, 2, 2, 3])
        lead = chance.choice([-4, -3, -2, -1, 1, 2, 3, 4])
        part = tuple(chance.randint(-6, 6) for _ in range(degree)) + (lead,)
        parts.extend([part] * chance.choice([1, 1, 2, 3]))
    return multiplied(*parts)


def random_fraction(chance, size=12):
    found = Fraction(chance.randint(-size, size), chance.randint(1, 6))
    return (found.numerator, found.denominator)


def told(number):
    number = Fraction(number)
    return (number.numerator, number.denominator)


def random_number(chance, size):
    return told(Fraction(chance.randint(1, size), chance.randint(1, size)))


def random_line(chance, size=None):
    """A line of one to eight discs, with free and held ends, now and then the same from both ends."""
    size = size or chance.randint(1, 8)
    most = chance.choice([1, 1, 2, 4, 30])
    discs = [random_number(chance, most) for _ in range(size)]
    shafts = [random_number(chance, most) for _ in range(size + 1)]
    for end in (0, -1):
        if chance.random() < 0.5:
            shafts[end] = (0, 1)
    if chance.random() < 0.3:
        discs = [discs[min(place, size - 1 - place)] for place in range(size)]
        shafts = [shafts[min(place, size - place)] for place in range(size + 1)]
    return (tuple(discs), tuple(shafts))


def sign(number):
    return (number > 0) - (number < 0)
