"""Lots of all paces at which a condition on the signs of polynomials holds."""

from shaftshakes.places import compare_places, fraction_between_places, fraction_place
from shaftshakes.places import fractions_around, real_places
from shaftshakes.telling import told_points

NOUGHT = (0, 1)
ONE = (1, 1)


def with_more_breaks(breaks, more):
    """Return two ascending lists of (PLACE, POINT) as one, numbers that both have but once."""
    merged = []
    at = 0
    for place, point in more:
        while at < len(breaks) and compare_places(breaks[at][0], place) < 0:
            merged.append(breaks[at])
            at += 1
        if at == len(breaks) or compare_places(breaks[at][0], place) != 0:
            merged.append((place, point))
    return merged + breaks[at:]


def breaks_of(polynomials):
    """Return the ascending list of (PLACE, POINT) of 0 and of all roots above 0 of polynomials."""
    nought = fraction_place(NOUGHT)
    breaks = [(nought, NOUGHT)]
    for polynomial in polynomials:
        places = real_places(polynomial)
        both = list(zip(places, told_points(places)))
        above = [(place, point) for place, point in both if compare_places(place, nought) > 0]
        breaks = with_more_breaks(breaks, above)
    return breaks


def fraction_behind(breaks, at):
    """Return the place of a fraction behind a break and ahead of the next one."""
    place = breaks[at][0]
    if at + 1 == len(breaks):
        return fraction_place(fractions_around(place, ONE)[1])
    return fraction_place(fraction_between_places(place, breaks[at + 1][0]))


def lot_of_parts(points, holds):
    """Return the lot of the parts that hold: each point and, behind it, what is ahead of the next one."""
    stretches = []
    start = None
    for part, is_in in enumerate(holds + [False]):
        if is_in and start is None:
            start = part
        elif not is_in and start is not None:
            last = part - 1
            low = (points[start // 2], start % 2 == 0)
            if last % 2 == 0:
                high = (points[last // 2], True)
            elif last + 1 < len(holds):
                high = (points[last // 2 + 1], False)
            else:
                high = (None, False)
            stretches.append(low + high)
            start = None
    return tuple(stretches)


def lot_where(polynomials, condition):
    """Return the lot of all paces at whose place a condition holds.

    It is one on the signs of some polynomials that change at roots of the told ones alone.
    """
    breaks = breaks_of(polynomials)
    holds = []
    for at, (place, _) in enumerate(breaks):
        holds.append(condition(place))
        holds.append(condition(fraction_behind(breaks, at)))
    return lot_of_parts([point for _, point in breaks], holds)
