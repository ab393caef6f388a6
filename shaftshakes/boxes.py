"""Boxes: pairs (SLOW, FAST) of lines, and what is so for all lines between them."""

from shaftshakes.errors import InvalidBox
from shaftshakes.lines import check_index, check_line, check_most, check_pace, check_span, is_line
from shaftshakes.rationals import compare_fractions, lowest
from shaftshakes.runs import count_not_faster, count_slower, end_places
from shaftshakes.slots import number_in, slot_pair, slots_of, turning_of, with_number
from shaftshakes.telling import told_points


def is_not_above(row, other):
    """Tell whether no fraction of a row is above that of another row of the same length."""
    return all([compare_fractions(first, second) <= 0 for first, second in zip(row, other)])


def is_not_faster(line, other):
    """Tell whether two lines have as many discs, the first one's not lighter, its shafts not stiffer."""
    if len(line[0]) != len(other[0]):
        return False
    return is_not_above(other[0], line[0]) and is_not_above(line[1], other[1])


def is_box(value):
    """Tell whether a value, whatever it is, is a box."""
    if not isinstance(value, tuple) or len(value) != 2:
        return False
    slow, fast = value
    return is_line(slow) and is_line(fast) and is_not_faster(slow, fast)


def check_box(given):
    """Raise InvalidBox for what is no box."""
    if not is_box(given):
        raise InvalidBox(given)


def is_in_box(box, line):
    """Tell whether a line is one of the lines of the box."""
    check_box(box)
    check_line(line)
    return is_not_faster(box[0], line) and is_not_faster(line, box[1])


def box_range(box, index):
    """Return the points of the least and the greatest pace of a swing."""
    check_box(box)
    check_index(box[0], index)
    return tuple([told_points(end_places(line))[index] for line in box])


def box_counts(box, pace):
    """Return the least and the greatest number of swings that are slower than the pace."""
    check_box(box)
    check_pace(pace)
    return (count_slower(box[1], pace), count_slower(box[0], pace))


def is_clear_span(box, low, high):
    """Tell whether no line of the box has a pace from low up to high.

    This is so if all swings that are not faster than high in SLOW are slower than low in FAST.
    """
    return count_not_faster(box[0], high) == count_slower(box[1], low)


def is_clear(box, low, high):
    """Tell whether no line of the box has a swing whose pace lies from low up to high."""
    check_box(box)
    check_span(low, high)
    return is_clear_span(box, low, high)


def passing_line(box, pace):
    """Return a line of the box that has the pace, which a swing passes on the way from SLOW to FAST.

    On this way one number after the other is changed; in just one step at a time the swing can
    pass, and then the pace is one of the line with the turning amount.
    """
    line, fast = box
    slower = count_slower(line, pace)
    for slot in slots_of(line):
        following = with_number(line, slot, number_in(fast, slot))
        if count_slower(following, pace) < slower:
            return with_number(line, slot, turning_of(slot_pair(line, slot), pace))
        line = following
    return line


def clashing_line(box, low, high):
    """Return a line of the box that has a swing whose pace lies from low up to high; None if none has."""
    check_box(box)
    check_span(low, high)
    if is_clear_span(box, low, high):
        return None
    for line in box:
        if count_not_faster(line, high) > count_slower(line, low):
            return line
    return passing_line(box, low)


def clashing_orders(box, most, low, high):
    """Return the ascending tuple of the orders with which some line of the box has a pace in a stretch."""
    check_box(box)
    check_most(most)
    check_span(low, high)
    orders = []
    for order in range(1, most + 1):
        square = order * order
        if not is_clear_span(box, lowest(low[0] * square, low[1]), lowest(high[0] * square, high[1])):
            orders.append(order)
    return tuple(orders)


def slowing_slots(box, index, pace):
    """Return the slots with whose number that of SLOW the swing is slower than the pace in all lines."""
    check_box(box)
    check_index(box[0], index)
    check_pace(pace)
    slow, fast = box
    lines = [(slot, with_number(fast, slot, number_in(slow, slot))) for slot in slots_of(fast)]
    return tuple([slot for slot, line in lines if count_slower(line, pace) > index])


def quickening_slots(box, index, pace):
    """Return the slots with whose number that of FAST the swing is not slower than the pace in all lines."""
    check_box(box)
    check_index(box[0], index)
    check_pace(pace)
    slow, fast = box
    lines = [(slot, with_number(slow, slot, number_in(fast, slot))) for slot in slots_of(slow)]
    return tuple([slot for slot, line in lines if count_slower(line, pace) <= index])
