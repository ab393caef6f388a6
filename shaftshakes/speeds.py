"""Speeds, told by their squares: where an order of an engine meets a swing that it stirs."""

from shaftshakes.conditions import lot_of_parts
from shaftshakes.errors import InvalidOrder
from shaftshakes.lines import check_index, check_most, check_span
from shaftshakes.orders import check_engine
from shaftshakes.places import compare_places, fraction_place, real_places
from shaftshakes.points import check_point
from shaftshakes.rationals import is_whole, lowest
from shaftshakes.runs import end_places, thinned_run
from shaftshakes.stirs import TWELFTHS, is_stir, pushes_of, stir_of, twelfths_of
from shaftshakes.telling import told_points

NOUGHT = (0, 1)


def check_turning_order(given):
    """Raise InvalidOrder for what is no whole number, and for 0."""
    if not is_whole(given) or given == 0:
        raise InvalidOrder(given)


def speed_places(line, order):
    """Return the ascending list of the places of all paces, divided by the square of an order."""
    numbers = []
    scale = 1
    for number in thinned_run(line)[-1]:
        numbers.append(number * scale)
        scale *= order * order
    return real_places(tuple(numbers))


def stirred_swings(engine, most):
    """Return the list of (ORDER, INDEXES): the swings with paces above 0 that each order stirs."""
    pushes, twelfths = pushes_of(engine), twelfths_of(engine)
    places = end_places(engine[0])
    moving = [index for index, place in enumerate(places) if place.told != NOUGHT]
    known = {}
    found = []
    for order in range(1, most + 1):
        # What an order stirs, one with twelve more does, and the opposite one.
        like = min(order % TWELFTHS, -order % TWELFTHS)
        if like not in known:
            stir = stir_of(pushes, twelfths, like)
            known[like] = [index for index in moving if is_stir(stir, places[index])]
        found.append((order, known[like]))
    return found


def merged_rows(first, second):
    """Return two lists of rows, ascending by their places, as one; of like places the first list's is first."""
    rows = []
    at = 0
    for row in second:
        while at < len(first) and compare_places(first[at][0], row[0]) <= 0:
            rows.append(first[at])
            at += 1
        rows.append(row)
    return rows + first[at:]


def critical_rows(engine, most):
    """Return the list of (PLACE, ORDER, INDEX) of all critical speeds, ascending, then by order and index."""
    lists = []
    for order, indexes in stirred_swings(engine, most):
        places = speed_places(engine[0], order)
        lists.append([(places[index], order, index) for index in indexes])
    while len(lists) > 1:
        pairs = [lists[at:at + 2] for at in range(0, len(lists), 2)]
        lists = [merged_rows(pair[0], pair[1]) if len(pair) == 2 else pair[0] for pair in pairs]
    return lists[0]


def speed_of(engine, order, index):
    """Return the point PACE / (order * order) of the swing."""
    check_engine(engine)
    check_turning_order(order)
    check_index(engine[0], index)
    return told_points(speed_places(engine[0], order))[index]


def compare_speed(engine, order, index, point):
    """Return the sign of the speed of an order and a swing less a point."""
    check_engine(engine)
    check_turning_order(order)
    check_index(engine[0], index)
    place = check_point(point, {})
    return compare_places(speed_places(engine[0], order)[index], place)


def critical_speeds(engine, most):
    """Return the tuple of the pairs (ORDER, INDEX) of all critical speeds up to an order, ascending."""
    check_engine(engine)
    check_most(most)
    return tuple([(order, index) for _, order, index in critical_rows(engine, most)])


def clear_speeds(engine, most):
    """Return the lot of all squares that are no critical speeds up to an order."""
    check_engine(engine)
    check_most(most)
    told = {}
    points = [NOUGHT]
    last = fraction_place(NOUGHT)
    for place, order, index in critical_rows(engine, most):
        if compare_places(place, last) == 0:
            continue
        last = place
        if order not in told:
            told[order] = told_points(speed_places(engine[0], order))
        points.append(told[order][index])
    return lot_of_parts(points, [True, True] + [False, True] * (len(points) - 1))


def is_clear_speed(engine, most, low, high):
    """Tell whether no critical speed up to an order lies from low up to high."""
    check_engine(engine)
    check_most(most)
    check_span(low, high)
    places = end_places(engine[0])
    for order, indexes in stirred_swings(engine, most):
        square = order * order
        bottom = fraction_place(lowest(low[0] * square, low[1]))
        top = fraction_place(lowest(high[0] * square, high[1]))
        for index in indexes:
            if compare_places(places[index], bottom) >= 0 and compare_places(places[index], top) <= 0:
                return False
    return True
