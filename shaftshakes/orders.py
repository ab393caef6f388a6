"""Orders: what an engine's cranks stir, order by order, in the swings of its line."""

from itertools import permutations

from shaftshakes.errors import InvalidEngine, InvalidOrder
from shaftshakes.lines import check_index, is_line
from shaftshakes.rationals import is_fraction, is_index, is_whole
from shaftshakes.runs import end_places
from shaftshakes.stirs import TWELFTHS, compare_sizes, is_stir, pushes_of, stir_of, thinned_all, twelfths_of

MOST_CRANKS = 8
MOST_ARRANGED = 6


def is_crank(line, value):
    """Tell whether a value, whatever it is, is a crank (DISC, TWELFTH, WEIGHT) of an engine with the line."""
    if not isinstance(value, tuple) or len(value) != 3:
        return False
    disc, twelfth, weight = value
    if not is_index(disc, len(line[0])) or not is_index(twelfth, TWELFTHS):
        return False
    return is_fraction(weight) and weight[0] != 0


def is_engine(value):
    """Tell whether a value, whatever it is, is an engine."""
    if not isinstance(value, tuple) or len(value) != 2 or not is_line(value[0]):
        return False
    line, cranks = value
    if not isinstance(cranks, tuple) or not 1 <= len(cranks) <= MOST_CRANKS:
        return False
    return all([is_crank(line, crank) for crank in cranks])


def check_engine(given):
    """Raise InvalidEngine for what is no engine."""
    if not is_engine(given):
        raise InvalidEngine(given)


def check_order(given):
    """Raise InvalidOrder for what is no whole number."""
    if not is_whole(given):
        raise InvalidOrder(given)


def stir_by(engine, order):
    """Return the stir (A, B, C, D) of all swings by an order, times a number above 0 that the engine settles."""
    return stir_of(pushes_of(engine), twelfths_of(engine), order)


def stir_parts(engine, order):
    """Return the tuple (A, B, C, D), thinned together."""
    check_engine(engine)
    check_order(order)
    return thinned_all(stir_by(engine, order))


def stirs(engine, order, index):
    """Tell whether the order stirs the swing."""
    check_engine(engine)
    check_order(order)
    check_index(engine[0], index)
    return is_stir(stir_by(engine, order), end_places(engine[0])[index])


def silent_orders(engine, index):
    """Return the ascending tuple of those orders from 0 to 11 that leave the swing silent."""
    check_engine(engine)
    check_index(engine[0], index)
    place = end_places(engine[0])[index]
    return tuple([order for order in range(TWELFTHS) if not is_stir(stir_by(engine, order), place)])


def compare_stirs(engine, order, other, index):
    """Return the sign of the size of the first order's stir of the swing less that of the other one's."""
    check_engine(engine)
    check_order(order)
    check_order(other)
    check_index(engine[0], index)
    return compare_sizes(stir_by(engine, order), stir_by(engine, other), end_places(engine[0])[index])


def quiet_arrangements(engine, order, index):
    """Return the ascending tuple of the arrangements of the engine's twelfths that leave the swing silent.

    The first crank keeps its twelfth.
    """
    check_engine(engine)
    if len(engine[1]) > MOST_ARRANGED:
        raise InvalidEngine(engine)
    check_order(order)
    check_index(engine[0], index)
    pushes = pushes_of(engine)
    place = end_places(engine[0])[index]
    twelfths = twelfths_of(engine)
    rest = list(twelfths[1:])
    arranged = sorted(set([twelfths[:1] + other for other in permutations(rest)]))
    return tuple([row for row in arranged if not is_stir(stir_of(pushes, row, order), place)])
