"""Slots of a line, ("disc", i) or ("shaft", i), and what its determinant is for all amounts in one.

The determinant of the table K - L J is the end times all inner stiffnesses. In each single number
of the line it goes straight, as A + x B.
"""

from math import lcm

from shaftshakes.algebra import blend, fraction_value, raised, thinned_together
from shaftshakes.changes import with_one
from shaftshakes.errors import InvalidSlot
from shaftshakes.rationals import divided, is_amount, is_index

NOUGHT = (0, 1)
ONE = (1, 1)


def slots_of(line):
    """Return the list of all slots, discs first, each by index."""
    discs = [("disc", place) for place in range(len(line[0]))]
    return discs + [("shaft", place) for place in range(len(line[1]))]


def is_slot(line, value):
    """Tell whether a value, whatever it is, is a slot of the line."""
    if not isinstance(value, tuple) or len(value) != 2:
        return False
    kind, place = value
    if not isinstance(kind, str) or kind not in ("disc", "shaft"):
        return False
    return is_index(place, len(line[0] if kind == "disc" else line[1]))


def check_slot(line, given):
    """Raise InvalidSlot for what is no slot of the line."""
    if not is_slot(line, given):
        raise InvalidSlot(given)


def number_in(line, slot):
    """Return the inertia or the stiffness in a slot."""
    kind, place = slot
    return line[0][place] if kind == "disc" else line[1][place]


def with_number(line, slot, number):
    """Return the line with another number in a slot."""
    kind, place = slot
    if kind == "disc":
        return (with_one(line[0], place, number), line[1])
    return (line[0], with_one(line[1], place, number))


def table_polynomial(discs, shafts):
    """Return the determinant of the table, times a number above 0 that the bottoms alone settle."""
    before, last = (), (1,)
    before_scale = 1
    for place, inertia in enumerate(discs):
        ahead, behind = shafts[place], shafts[place + 1]
        scale = lcm(inertia[1], ahead[1], behind[1])
        stiffness = ahead[0] * (scale // ahead[1]) + behind[0] * (scale // behind[1])
        weight = inertia[0] * (scale // inertia[1])
        beside = ahead[0] * (scale // ahead[1]) * ahead[0] * (before_scale // ahead[1]) if place else 0
        here = blend(last, stiffness, raised(last), -weight)
        before, last = last, blend(here, 1, before, -beside)
        before_scale = scale
    return last


def slot_pair(line, slot):
    """Return (A, B): with the amount x in the slot the end is A + x B, but for a factor above 0."""
    discs, shafts = with_number(line, slot, NOUGHT)
    without = table_polynomial(discs, shafts)
    discs, shafts = with_number(line, slot, ONE)
    rise = blend(table_polynomial(discs, shafts), 1, without, -1)
    return thinned_together(without, rise)


def turning_of(pair, pace):
    """Return the amount above 0 with which the pace is that of a swing; None if there is not just one."""
    fixed = fraction_value(pair[0], pace)
    rise = fraction_value(pair[1], pace)
    if rise[0] == 0:
        return None
    amount = divided((-fixed[0], fixed[1]), rise)
    return amount if is_amount(amount) else None
