"""Polynomials, fractions and lines of chance for the tests."""

from fractions import Fraction


def multiplied(*polynomials):
    """The product of polynomials, by the tests' own means."""
    found = (1,)
    for polynomial in polynomials:
        row = [0] * (len(found) + len(polynomial) - 1)
        for place, number in enumerate(found):
            for other, other_number in enumerate(polynomial):
                row[place + other] += number * other_number
        found = tuple(row)
    return found


def random_polynomial(chance):
    """A product of a few small polynomials, some of them several times."""
    parts = [(chance.choice([1, 2, -3, 6]),)]
    for _ in range(chance.randint(1, 3)):
        degree = chance.choice([1, 1, 2, 2, 3])
        lead = chance.choice([-4, -3, -2, -1, 1, 2, 3, 4])
        part = tuple(chance.randint(-6, 6) for _ in range(degree)) + (lead,)
        parts.extend([part] * chance.choice([1, 1, 2, 3]))
    return multiplied(*parts)


def random_fraction(chance, size=12):
    found = Fraction(chance.randint(-size, size), chance.randint(1, 6))
    return (found.numerator, found.denominator)


def told(number):
    number = Fraction(number)
    return (number.numerator, number.denominator)


def random_number(chance, size):
    return told(Fraction(chance.randint(1, size), chance.randint(1, size)))


def random_line(chance, size=None):
    """A line of one to eight discs, with free and held ends, now and then the same from both ends."""
    size = size or chance.randint(1, 8)
    most = chance.choice([1, 1, 2, 4, 30])
    discs = [random_number(chance, most) for _ in range(size)]
    shafts = [random_number(chance, most) for _ in range(size + 1)]
    for end in (0, -1):
        if chance.random() < 0.5:
            shafts[end] = (0, 1)
    if chance.random() < 0.3:
        discs = [discs[min(place, size - 1 - place)] for place in range(size)]
        shafts = [shafts[min(place, size - place)] for place in range(size + 1)]
    return (tuple(discs), tuple(shafts))


def random_between(chance, first, second):
    """A fraction from the first one up to the second one, now and then one of both."""
    part = chance.choice([0, 1, Fraction(1, 2), Fraction(chance.randint(0, 9), 9)])
    return told(Fraction(*first) + part * (Fraction(*second) - Fraction(*first)))


def random_line_of(chance, box):
    """A line of a box."""
    return tuple(tuple(random_between(chance, first, second) for first, second in zip(*rows))
                 for rows in zip(*box))


def random_box(chance, size=None):
    """A box, some numbers of which, now and then all, are the same in both lines."""
    fast = random_line(chance, size)
    change = chance.choice([0, 0.2, 0.6, 1])
    discs, shafts = [], []
    for number in fast[0]:
        more = Fraction(chance.randint(1, 6), chance.randint(2, 9)) if chance.random() < change else 0
        discs.append(told(Fraction(*number) + more))
    for place, number in enumerate(fast[1]):
        less = Fraction(chance.randint(1, 5), 5) if chance.random() < change else 1
        if place in (0, len(fast[0])) and chance.random() < change / 3:
            less = 0
        shafts.append(told(Fraction(*number) * less))
    return ((tuple(discs), tuple(shafts)), fast)


def random_slot(chance, line):
    kind = chance.choice(["disc", "shaft"])
    return (kind, chance.randrange(len(line[0] if kind == "disc" else line[1])))


def random_machine(chance, size=None):
    """A machine of one to eight discs, often with parts that are the same, so that paces come twice."""
    size = size or chance.randint(1, 8)
    most = chance.choice([1, 1, 2, 4, 30])
    stays = [(0, 1)] * chance.choice([1, 3, 20]) + [random_number(chance, most)]
    ratios = chance.choice([[1], [1, 1, -1], [1, 2, -2, Fraction(1, 2), Fraction(-3, 2)]])
    twins = chance.choice([0, 0.3, 0.8])
    machine = [(random_number(chance, most), chance.choice(stays))]
    for place in range(1, size):
        if place > 1 and chance.random() < twins:
            disc = machine[-1][:2] + (chance.choice([machine[-1][2], chance.randrange(place)]),) + machine[-1][3:]
        else:
            disc = (random_number(chance, most), chance.choice(stays), chance.randrange(place),
                    random_number(chance, most), told(chance.choice(ratios)))
        machine.append(disc)
    return tuple(machine)


def random_engine(chance, line=None, most_cranks=8):
    """An engine of one to eight cranks, often with cranks in pairs that pull against one another."""
    line = line or random_line(chance)
    size = len(line[0])
    weights = chance.choice([[1], [1, 1, -1], [1, 2, Fraction(1, 2), Fraction(-3, 4)]])
    steps = chance.choice([[0, 6], [0, 3, 6, 9], [0, 4, 8], list(range(12))])
    cranks = []
    for _ in range(chance.randint(1, most_cranks)):
        crank = (chance.randrange(size), chance.choice(steps), told(chance.choice(weights)))
        cranks.append(crank)
        if chance.random() < 0.5:
            disc, twelfth, weight = crank
            cranks.append((chance.choice([disc, size - 1 - disc]), (twelfth + 6) % 12, weight))
    return (line, tuple(cranks[:most_cranks]))


def sign(number):
    return (number > 0) - (number < 0)
