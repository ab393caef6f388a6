"""Amounts: what one inertia or stiffness does to all swings, for all its amounts."""

from shaftshakes.changes import check_amount
from shaftshakes.lines import check_index, check_line, check_pace
from shaftshakes.repeated import roots_told_often
from shaftshakes.runs import count_slower
from shaftshakes.slots import check_slot, slot_pair, turning_of, with_number

NOUGHT = (0, 1)
ONE = (1, 1)


def check_line_and_slot(line, slot):
    """Raise InvalidLine or InvalidSlot for what is no line, or no slot of it."""
    check_line(line)
    check_slot(line, slot)


def count_pieces(line, slot, pace):
    """Return the ascending tuple of (STRETCH, COUNT) of all amounts; one piece, or two."""
    amount = turning_of(slot_pair(line, slot), pace)
    count = count_slower(with_number(line, slot, ONE if amount is None else amount), pace)
    if amount is None:
        return (((NOUGHT, False, None, False), count),)
    # At the turning amount itself the number is the lesser one: there the pace is that of a swing.
    if slot[0] == "disc":
        return (((NOUGHT, False, amount, True), count), ((amount, False, None, False), count + 1))
    return (((NOUGHT, False, amount, False), count + 1), ((amount, True, None, False), count))


def slot_polynomials(line, slot):
    """Return the pair (A, B) of the slot's polynomials."""
    check_line_and_slot(line, slot)
    return slot_pair(line, slot)


def with_amount(line, slot, amount):
    """Return the line with the amount in the slot."""
    check_line_and_slot(line, slot)
    check_amount(amount, 1)
    return with_number(line, slot, amount)


def count_with(line, slot, amount, pace):
    """Return how many swings are slower than the pace with the amount in the slot."""
    check_line_and_slot(line, slot)
    check_amount(amount, 1)
    check_pace(pace)
    return count_slower(with_number(line, slot, amount), pace)


def turning_amount(line, slot, pace):
    """Return the amount with which the pace is that of a swing; None if there is not just one."""
    check_line_and_slot(line, slot)
    check_pace(pace)
    return turning_of(slot_pair(line, slot), pace)


def counts_by_amount(line, slot, pace):
    """Return the stretches of amounts, ascending, with the number of slower swings in each."""
    check_line_and_slot(line, slot)
    check_pace(pace)
    return count_pieces(line, slot, pace)


def pace_limits(line, slot):
    """Return the pairs (LOWER, UPPER) of the limits of the paces of all swings."""
    check_line_and_slot(line, slot)
    without, rise = slot_pair(line, slot)
    if not without:
        # A single disc, free at both ends, has the pace 0 with all inertias.
        return ((NOUGHT, NOUGHT),)
    lowers, uppers = (rise, without) if slot[0] == "disc" else (without, rise)
    return tuple(zip(roots_told_often(lowers), roots_told_often(uppers) + [None]))


def amounts_slower(line, slot, index, pace):
    """Return the stretch of amounts with which the swing is slower than the pace; None if there is none."""
    check_line_and_slot(line, slot)
    check_index(line, index)
    check_pace(pace)
    pieces = count_pieces(line, slot, pace)
    stretches = [stretch for stretch, count in pieces if count > index]
    if not stretches:
        return None
    return stretches[0][:2] + stretches[-1][2:]
