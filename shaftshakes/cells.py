"""Cells: fractions that enclose one real root each, of plain polynomials without fractions as roots.

A cell (LOW, HIGH, BITS) stands for the numbers from LOW to HIGH, halved BITS times. Descartes'
count, taken for the roots between 0 and 1, is never too small, it is right where it is 0 or 1,
and it is one of these where cells are small enough; so cells are halved until it is. No root is
an end of a cell, as none is a fraction.
"""

from itertools import accumulate

from shaftshakes.rationals import count_changes


def root_bits(polynomial):
    """Return how often 1 must be doubled (or halved, if below 0) to be above each root's size."""
    lead = polynomial[-1].bit_length() - 1
    degree = len(polynomial) - 1
    most = None
    for place, number in enumerate(polynomial[:-1]):
        if number != 0:
            bits = -((lead - number.bit_length()) // (degree - place))
            if most is None or bits > most:
                most = bits
    return most + 1


def stretched(polynomial, bits):
    """Return a multiple of the polynomial at its variable doubled `bits` times."""
    if bits >= 0:
        return [number << (place * bits) for place, number in enumerate(polynomial)]
    degree = len(polynomial) - 1
    return [number << ((place - degree) * bits) for place, number in enumerate(polynomial)]


def moved(row, step):
    """Return the polynomial at its variable and a whole number together."""
    row = list(row)
    for start in range(len(row) - 1):
        for place in range(len(row) - 2, start - 1, -1):
            row[place] += step * row[place + 1]
    return row


def descartes_count(row):
    """Return Descartes' count for the roots between 0 and 1."""
    numbers = []
    row = list(row)
    while row:
        row = list(accumulate(row))
        numbers.append(row.pop())
    return count_changes(numbers)


def zoomed(row, step, bits):
    """Return the row for the part from step to step + 1 of 2, multiplied `bits` times, parts."""
    return moved(stretched(row, -bits), step)


def newton_steps(row, count, bits):
    """Return in which parts, of 2 multiplied `bits` times, many roots near to one another may lie.

    For a root that comes `count` times Newton's step is to be taken so many times.
    """
    parts = 1 << bits
    steps = [0, parts - 1]
    slope = row[1]
    if slope != 0:
        steps.append(-count * parts * row[0] // slope)
    slope = sum([place * number for place, number in enumerate(row)])
    if slope != 0:
        steps.append(parts - count * parts * sum(row) // slope - 1)
    return sorted(set([step for step in steps if 0 <= step < parts]))


def leapt_part(part):
    """Return the small part of a part in which all is that it counts; None if it is not found."""
    at, depth, row, count, leap = part
    for step in newton_steps(row, count, leap):
        inner = zoomed(row, step, leap)
        if descartes_count(inner) == count:
            return ((at << leap) + step, depth + leap, inner, count, 2 * leap)
    return None


def smaller_parts(part):
    """Return what a part falls into, the higher one first.

    Where roots are very near to one another, halving goes on for long without parting them:
    then the parts leap to smaller ones, further each time, as long as this meets the roots.
    """
    at, depth, row, count, leap = part
    if leap > 1:
        leapt = leapt_part(part)
        if leapt is not None:
            return [leapt]
    low = stretched(row, -1)
    high = moved(low, 1)
    parts = []
    for side, inner in ((1, high), (0, low)):
        inner_count = descartes_count(inner)
        inner_leap = max(2, leap // 2) if inner_count == count else 0
        parts.append((2 * at + side, depth + 1, inner, inner_count, inner_leap))
    return parts


def parts_with_roots(row):
    """Return the ascending list of (AT, DEPTH): one root each lies there between 0 and 1."""
    found = []
    waiting = [(0, 0, row, descartes_count(row), 0)]
    while waiting:
        part = waiting.pop()
        if part[3] == 1:
            found.append((part[0], part[1]))
        elif part[3] > 1:
            waiting.extend(smaller_parts(part))
    return found


def cells_above_nought(polynomial):
    """Return the ascending list of the cells of all roots above 0."""
    top_bits = root_bits(polynomial)
    cells = []
    for at, depth in parts_with_roots(stretched(polynomial, top_bits)):
        bits = depth - top_bits
        if bits >= 0:
            cells.append((at, at + 1, bits))
        else:
            cells.append((at << -bits, (at + 1) << -bits, 0))
    return cells


def cells_of(polynomial):
    """Return the ascending list of the cells of all real roots."""
    if len(polynomial) < 2:
        return []
    mirrored = [-number if place % 2 else number for place, number in enumerate(polynomial)]
    cells = [(-high, -low, bits) for low, high, bits in cells_above_nought(mirrored)]
    return cells[::-1] + cells_above_nought(polynomial)

