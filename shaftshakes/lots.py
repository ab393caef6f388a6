"""Lots of paces: tuples of stretches (LOW, HAS_LOW, HIGH, HAS_HIGH).

A lot is worked with as the ascending list of its cuts: pairs (PLACE, SIDE), a cut just ahead of
the place for the side 0, just behind it for 1. The numbers of the lot begin at the first cut,
end at the second one, and so on; an odd number of cuts stands for a last stretch without an end.
"""

from shaftshakes.errors import InvalidLot, InvalidPoint
from shaftshakes.places import compare_places, fraction_between_places, fraction_place, fractions_around
from shaftshakes.points import check_point, read_point
from shaftshakes.rationals import sign_of

NOUGHT = (0, 1)
ONE = (1, 1)


def compare_cuts(first, second):
    """Return the sign of the first cut less the second one."""
    sign = compare_places(first[0], second[0])
    return sign if sign != 0 else sign_of(first[1] - second[1])


def read_stretch(value, known):
    """Return the two cuts of a stretch, or one if it has no end; None for what is no stretch."""
    if not isinstance(value, tuple) or len(value) != 4:
        return None
    low, has_low, high, has_high = value
    if not isinstance(has_low, bool) or not isinstance(has_high, bool):
        return None
    low_place = read_point(low, known)
    if low_place is None:
        return None
    start = (low_place, 0 if has_low else 1)
    if high is None:
        return None if has_high else [start]
    high_place = read_point(high, known)
    if high_place is None:
        return None
    return [start, (high_place, 1 if has_high else 0)]


def read_lot(value, known):
    """Return the cuts of a value, whatever it is; None if it is no lot."""
    if not isinstance(value, tuple):
        return None
    cuts = []
    for stretch in value:
        more = read_stretch(stretch, known)
        if more is None or len(cuts) % 2 == 1:
            return None
        cuts.extend(more)
    if cuts and compare_places(cuts[0][0], fraction_place(NOUGHT)) < 0:
        return None
    for place in range(1, len(cuts)):
        if compare_cuts(cuts[place - 1], cuts[place]) >= 0:
            return None
    return cuts


def check_lot(given, known):
    """Return the cuts of a lot; raise InvalidLot for what is none."""
    cuts = read_lot(given, known)
    if cuts is None:
        raise InvalidLot(given)
    return cuts


def check_pace_point(given, known):
    """Return the place of a point from 0 on; raise InvalidPoint for what is none."""
    place = check_point(given, known)
    if compare_places(place, fraction_place(NOUGHT)) < 0:
        raise InvalidPoint(given)
    return place


def lot_of_cuts(cuts):
    """Return the lot that has these cuts."""
    stretches = []
    for place in range(0, len(cuts), 2):
        low, low_side = cuts[place]
        if place + 1 < len(cuts):
            high, high_side = cuts[place + 1]
            stretches.append((low.told, low_side == 0, high.told, high_side == 1))
        else:
            stretches.append((low.told, low_side == 0, None, False))
    return tuple(stretches)


def merged_cuts(first, second, is_in):
    """Return the cuts of all numbers for which is_in, told of both lots, is so."""
    cuts = []
    first_at, second_at = 0, 0
    inside = False
    while first_at < len(first) or second_at < len(second):
        if first_at == len(first):
            order = 1
        elif second_at == len(second):
            order = -1
        else:
            order = compare_cuts(first[first_at], second[second_at])
        cut = second[second_at] if order > 0 else first[first_at]
        if order <= 0:
            first_at += 1
        if order >= 0:
            second_at += 1
        if is_in(first_at % 2 == 1, second_at % 2 == 1) != inside:
            cuts.append(cut)
            inside = not inside
    return cuts


def is_lot(value):
    """Tell whether a value, whatever it is, is a lot."""
    return read_lot(value, {}) is not None


def lot_holds(lot, point):
    """Tell whether a point from 0 on is in the lot."""
    known = {}
    cuts = check_lot(lot, known)
    place = check_pace_point(point, known)
    passed = [cut for cut in cuts if compare_cuts(cut, (place, 0)) <= 0]
    return len(passed) % 2 == 1


def lot_both(lot, other):
    """Return the lot of the paces that are in both lots."""
    known = {}
    first = check_lot(lot, known)
    second = check_lot(other, known)
    return lot_of_cuts(merged_cuts(first, second, lambda one, two: one and two))


def lot_either(lot, other):
    """Return the lot of the paces that are in one of the lots or in both."""
    known = {}
    first = check_lot(lot, known)
    second = check_lot(other, known)
    return lot_of_cuts(merged_cuts(first, second, lambda one, two: one or two))


def lot_rest(lot):
    """Return the lot of all other paces."""
    cuts = check_lot(lot, {})
    all_cuts = [(fraction_place(NOUGHT), 0)]
    return lot_of_cuts(merged_cuts(all_cuts, cuts, lambda one, two: one and not two))


def are_same_lots(lot, other):
    """Tell whether two lots are the same numbers."""
    known = {}
    first = check_lot(lot, known)
    second = check_lot(other, known)
    if len(first) != len(second):
        return False
    return all([compare_cuts(first[place], second[place]) == 0 for place in range(len(first))])


def any_pace(lot):
    """Return a fraction that is in the lot; None if there is none."""
    cuts = check_lot(lot, {})
    for place in range(0, len(cuts), 2):
        low, side = cuts[place]
        if side == 0 and not low.polynomial:
            return low.told
        if place + 1 == len(cuts):
            return fractions_around(low, ONE)[1]
        high = cuts[place + 1][0]
        if compare_places(low, high) < 0:
            return fraction_between_places(low, high)
    return None
