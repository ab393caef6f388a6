"""Readings: pairs (PACE, COUNT) of a pace and how many swings are slower, and what they leave open."""

from shaftshakes.amounts import check_line_and_slot, count_pieces
from shaftshakes.errors import InvalidReadings
from shaftshakes.lines import check_line
from shaftshakes.places import compare_places, fraction_between_places, fractions_around
from shaftshakes.rationals import compare_fractions, is_amount, is_whole
from shaftshakes.runs import count_slower, end_places
from shaftshakes.slots import slots_of

MOST_READINGS = 8
ONE = (1, 1)


def is_reading(value):
    """Tell whether a value, whatever it is, is a reading."""
    if not isinstance(value, tuple) or len(value) != 2:
        return False
    pace, count = value
    return is_amount(pace) and is_whole(count) and count >= 0


def are_readings(value):
    """Tell whether a value, whatever it is, is a tuple of one to eight readings."""
    if not isinstance(value, tuple) or not 1 <= len(value) <= MOST_READINGS:
        return False
    return all([is_reading(reading) for reading in value])


def check_readings(given):
    """Raise InvalidReadings for what is no tuple of one to eight readings."""
    if not isinstance(given, tuple):
        raise InvalidReadings(None)
    if not given:
        raise InvalidReadings(0)
    for index, reading in enumerate(given):
        if index == MOST_READINGS or not is_reading(reading):
            raise InvalidReadings(index)


def common_stretch(first, second):
    """Return the stretch of the amounts that are in both stretches; None if there are none."""
    # A low end that belongs to its stretch is lower than one that does not, a high end higher.
    order = compare_fractions(first[0], second[0])
    later = first if order > 0 or (order == 0 and not first[1]) else second
    if first[2] is None:
        ending = second
    elif second[2] is None:
        ending = first
    else:
        order = compare_fractions(first[2], second[2])
        ending = first if order < 0 or (order == 0 and not first[3]) else second
    both = (later[0], later[1], ending[2], ending[3])
    if both[2] is not None:
        order = compare_fractions(both[0], both[2])
        if order > 0 or (order == 0 and not (both[1] and both[3])):
            return None
    return both


def stretch_left(line, slot, readings):
    """Return the stretch of amounts in the slot with which the line agrees with all readings, or None."""
    left = ((0, 1), False, None, False)
    for pace, count in readings:
        stretches = [stretch for stretch, slower in count_pieces(line, slot, pace) if slower == count]
        if not stretches:
            return None
        left = common_stretch(left, stretches[0])
        if left is None:
            return None
    return left


def agrees(line, readings):
    """Tell whether the line agrees with all readings."""
    check_line(line)
    check_readings(readings)
    return all([count_slower(line, pace) == count for pace, count in readings])


def amounts_left(line, slot, readings):
    """Return the stretch of amounts with which the line agrees with all readings; None if there is none."""
    check_line_and_slot(line, slot)
    check_readings(readings)
    return stretch_left(line, slot, readings)


def slots_left(line, readings):
    """Return the pairs (SLOT, STRETCH) of all slots in which some amount agrees with all readings."""
    check_line(line)
    check_readings(readings)
    stretches = [(slot, stretch_left(line, slot, readings)) for slot in slots_of(line)]
    return tuple([(slot, stretch) for slot, stretch in stretches if stretch is not None])


def parting_pace(line, other):
    """Return a fraction above 0 at which the numbers of slower swings are unlike; None if there is none."""
    check_line(line)
    check_line(other)
    places = end_places(line)
    other_places = end_places(other)
    for first, second in zip(places, other_places):
        order = compare_places(first, second)
        if order != 0:
            return fraction_between_places(first, second) if order < 0 else fraction_between_places(second, first)
    if len(places) == len(other_places):
        return None
    longer = places if len(places) > len(other_places) else other_places
    # Behind the first pace that the shorter line has not.
    return fractions_around(longer[min(len(places), len(other_places))], ONE)[1]
