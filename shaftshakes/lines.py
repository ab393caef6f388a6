"""Lines: pairs (DISCS, SHAFTS) of inertias and stiffnesses, and the paces of their swings."""

from shaftshakes.errors import InvalidDisc, InvalidIndex, InvalidLine
from shaftshakes.errors import InvalidNumber, InvalidPace, InvalidShaft
from shaftshakes.places import compare_places
from shaftshakes.points import check_point
from shaftshakes.rationals import count_changes, is_fraction_from_nought, is_index, is_span
from shaftshakes.runs import count_slower, end_places, run_signs, thinned_run
from shaftshakes.telling import told_points

MOST_DISCS = 8
MOST_ORDER = 30


def is_row_of_fractions(value, size):
    """Tell whether a value, whatever it is, is a tuple of so many fractions from 0 on."""
    if not isinstance(value, tuple) or len(value) != size:
        return False
    return all([is_fraction_from_nought(number) for number in value])


def is_line(value):
    """Tell whether a value, whatever it is, is a line."""
    if not isinstance(value, tuple) or len(value) != 2:
        return False
    discs, shafts = value
    if not isinstance(discs, tuple) or not 1 <= len(discs) <= MOST_DISCS:
        return False
    if not is_row_of_fractions(discs, len(discs)) or not is_row_of_fractions(shafts, len(discs) + 1):
        return False
    return all([number[0] > 0 for number in discs + shafts[1:-1]])


def check_line(given):
    """Raise InvalidLine for what is no line."""
    if not is_line(given):
        raise InvalidLine(given)


def check_disc(line, given):
    """Raise InvalidDisc for what is no index of a disc of the line."""
    if not is_index(given, len(line[0])):
        raise InvalidDisc(given)


def check_shaft(line, given):
    """Raise InvalidShaft for what is no index of a shaft of the line."""
    if not is_index(given, len(line[1])):
        raise InvalidShaft(given)


def check_index(line, given):
    """Raise InvalidIndex for what is no number of a swing of the line."""
    if not is_index(given, len(line[0])):
        raise InvalidIndex(given)


def check_pace(given):
    """Raise InvalidPace for what is no fraction from 0 on."""
    if not is_fraction_from_nought(given):
        raise InvalidPace(given)


def check_span(low, high):
    """Raise InvalidPace for what is no fraction from 0 on, and for a higher one that is not above."""
    check_pace(low)
    if not is_span(low, high):
        raise InvalidPace(high)


def check_most(given):
    """Raise InvalidNumber for what is no whole number from 1 up to the greatest order that is let."""
    if not is_index(given, MOST_ORDER + 1) or given == 0:
        raise InvalidNumber(given)


def run_of(line):
    """Return the run: the polynomials t_0 to t_(n - 1) and the end, each thinned by itself."""
    check_line(line)
    return thinned_run(line)


def paces_of(line):
    """Return the ascending tuple of the points of all paces."""
    check_line(line)
    return told_points(end_places(line))


def slower_count(line, pace):
    """Return how many swings are slower than the pace."""
    check_line(line)
    check_pace(pace)
    return count_slower(line, pace)


def compare_pace(line, index, point):
    """Return the sign of the pace of a swing less a point."""
    check_line(line)
    check_index(line, index)
    place = check_point(point, {})
    signs = run_signs(thinned_run(line), place)
    slower = count_changes(signs)
    if index < slower:
        return -1
    # Where the end is 0, the point is itself a pace, that of the first swing that is not slower.
    if index == slower and signs[-1] == 0:
        return 0
    return 1


def compare_swings(line, index, other, number):
    """Return the sign of the pace of a swing less that of a swing of another line."""
    check_line(line)
    check_index(line, index)
    check_line(other)
    if not is_index(number, len(other[0])):
        raise InvalidNumber(number)
    return compare_places(end_places(line)[index], end_places(other)[number])


def mirrored_line(line):
    """Return the line with its discs and shafts in the opposite order."""
    check_line(line)
    discs, shafts = line
    return (discs[::-1], shafts[::-1])
