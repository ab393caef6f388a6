"""Slow and plain ways to the same answers, by other means than the package's, for the tests.

Roots are counted by Sturm's row over Fraction, as the document tells it, and lines are looked at
through the determinant of their table.
"""

from fractions import Fraction


def value(polynomial, x):
    total = Fraction(0)
    for number in reversed(polynomial):
        total = total * x + number
    return total


def trim(row):
    row = list(row)
    while row and row[-1] == 0:
        row.pop()
    return row


def rest(first, second):
    row = trim([Fraction(number) for number in first])
    while len(row) >= len(second):
        times = row[-1] / second[-1]
        start = len(row) - len(second)
        for place, number in enumerate(second):
            row[start + place] -= times * number
        row = trim(row[:-1])
    return row


def divisor(first, second):
    first, second = trim(first), trim(second)
    while second:
        first, second = second, rest(first, second)
    return [Fraction(number) / first[-1] for number in first]


def slope(polynomial):
    return [place * number for place, number in enumerate(polynomial)][1:]


def quotient(first, second):
    row = trim([Fraction(number) for number in first])
    found = []
    while len(row) >= len(second):
        times = row[-1] / second[-1]
        found.append(times)
        start = len(row) - len(second)
        for place, number in enumerate(second):
            row[start + place] -= times * number
        row.pop()
    return found[::-1]


def plain(polynomial):
    """The monic polynomial with the same roots, each once, over Fraction."""
    found = quotient(polynomial, divisor(polynomial, slope(polynomial)))
    return [number / found[-1] for number in found]


def sturm_row(polynomial):
    first = plain(polynomial)
    row = [first, slope(first)]
    while row[-1]:
        row.append([-number for number in rest(row[-2], row[-1])])
    return row[:-1]


def changes(numbers):
    signs = [number > 0 for number in numbers if number != 0]
    return sum(one != two for one, two in zip(signs, signs[1:]))


def roots_up_to(row, x):
    """The sign changes in Sturm's row far below all roots less those at x."""
    far = [(-1) ** (len(polynomial) - 1) * polynomial[-1] for polynomial in row]
    return changes(far) - changes([value(polynomial, x) for polynomial in row])


def root_count(polynomial, low=None, high=None):
    """How many different roots lie above low and below high."""
    row = sturm_row(polynomial)
    if high is None:
        above = changes([(-1) ** (len(each) - 1) * each[-1] for each in row]) - changes([each[-1] for each in row])
    else:
        above = roots_up_to(row, high) - (value(polynomial, high) == 0)
    return max(0, above - (roots_up_to(row, low) if low is not None else 0))


def cell(polynomial, index, width):
    """Fractions around the root with this index that differ by at most the width."""
    row = sturm_row(polynomial)
    bound = 2 + sum(abs(Fraction(number)) for number in polynomial) / abs(polynomial[-1])
    low, high = -bound, bound
    while high - low > width:
        half = (low + high) / 2
        if roots_up_to(row, half) > index:
            high = half
        else:
            low = half
    return low, high


def fractions_of(row):
    return [Fraction(*pair) for pair in row]


def table(line, pace):
    """The table K - L J of a line at a pace."""
    discs, shafts = fractions_of(line[0]), fractions_of(line[1])
    size = len(discs)
    rows = [[Fraction(0)] * size for _ in range(size)]
    for disc in range(size):
        rows[disc][disc] = shafts[disc] + shafts[disc + 1] - Fraction(pace) * discs[disc]
        if disc:
            rows[disc][disc - 1] = rows[disc - 1][disc] = -shafts[disc]
    return rows


def determinant(rows):
    rows = [list(row) for row in rows]
    found = Fraction(1)
    for place in range(len(rows)):
        other = next((k for k in range(place, len(rows)) if rows[k][place] != 0), None)
        if other is None:
            return Fraction(0)
        if other != place:
            rows[place], rows[other] = rows[other], rows[place]
            found = -found
        found *= rows[place][place]
        for k in range(place + 1, len(rows)):
            times = rows[k][place] / rows[place][place]
            for step in range(place, len(rows)):
                rows[k][step] -= times * rows[place][step]
    return found


def angles(line, pace):
    """The angles t_0 to t_(n - 1) at a pace that is a fraction, straight from the rows of the table."""
    rows = table(line, pace)
    found = [Fraction(1)]
    for disc in range(len(rows) - 1):
        before = rows[disc][disc - 1] * found[disc - 1] if disc else 0
        found.append((rows[disc][disc] * found[disc] + before) / -rows[disc][disc + 1])
    return found


def squares(rows):
    """How many of Sylvester's squares of a table are below 0, and how many are 0, by Lagrange's way."""
    rows = [list(row) for row in rows]
    count = 0
    left = list(range(len(rows)))
    while left:
        one = next((k for k in left if rows[k][k] != 0), None)
        if one is None:
            pair = [(j, k) for j in left for k in left if rows[j][k] != 0]
            if not pair:
                return count, len(left)
            j, k = pair[0]
            for step in left:
                rows[j][step] += rows[k][step]
            for step in left:
                rows[step][j] += rows[step][k]
            continue
        count += rows[one][one] < 0
        left.remove(one)
        for j in left:
            times = rows[j][one] / rows[one][one]
            for k in left:
                rows[j][k] -= times * rows[one][k]
    return count, 0


def slower(line, pace):
    """How many swings are slower than a pace."""
    return squares(table(line, pace))[0]


def not_faster(line, pace):
    """How many swings are not faster than a pace."""
    return sum(squares(table(line, pace)))


def machine_table(machine, pace):
    """The table K - L J of a machine at a pace."""
    rows = [[Fraction(0)] * len(machine) for _ in machine]
    for place, disc in enumerate(machine):
        rows[place][place] += Fraction(*disc[1]) - Fraction(pace) * Fraction(*disc[0])
        if place:
            parent, stiffness, ratio = disc[2], Fraction(*disc[3]), Fraction(*disc[4])
            rows[place][place] += stiffness
            rows[parent][parent] += ratio * ratio * stiffness
            rows[place][parent] -= ratio * stiffness
            rows[parent][place] -= ratio * stiffness
    return rows


def answer(rows, shaken, other):
    """How the other one goes if one is shaken by 1, by Cramer's rule; None if the table is singular."""
    whole = determinant(rows)
    if whole == 0:
        return None
    changed = [[Fraction(k == shaken) if place == other else number for place, number in enumerate(row)]
               for k, row in enumerate(rows)]
    return determinant(changed) / whole
