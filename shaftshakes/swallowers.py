"""Swallowers: small discs hung on a disc of a machine, and the paces that they quiet."""

from shaftshakes.changes import check_amount
from shaftshakes.errors import InvalidPace, InvalidStock, TooManyDiscs
from shaftshakes.lines import MOST_DISCS, check_pace, check_span
from shaftshakes.machines import check_machine, check_machine_disc, hidden_part
from shaftshakes.places import real_places
from shaftshakes.ratios import ratio_at
from shaftshakes.rationals import compare_fractions, divided, is_amount, is_index, multiplied, subtracted
from shaftshakes.repeated import has_root_within
from shaftshakes.telling import told_points
from shaftshakes.trees import answer_of_root, end_of_machine, told_from

NOUGHT = (0, 1)
ONE = (1, 1)
MOST_SWALLOWERS = 8


def check_machine_and_disc(machine, disc):
    """Raise InvalidMachine or InvalidDisc for what is no machine, or no index of a disc of it."""
    check_machine(machine)
    check_machine_disc(machine, disc)


def check_tuned(given):
    """Raise InvalidPace for what is no fraction above 0."""
    if not is_amount(given):
        raise InvalidPace(given)


def check_span_around(tuned, low, high):
    """Raise InvalidPace for a low end that is not above 0 and below tuned, and a high one not above it."""
    if not is_amount(low) or compare_fractions(low, tuned) >= 0:
        raise InvalidPace(low)
    if not is_amount(high) or compare_fractions(high, tuned) <= 0:
        raise InvalidPace(high)


def is_swallower(machine, value):
    """Tell whether a value, whatever it is, is (DISC, J, K) with a disc of the machine."""
    if not isinstance(value, tuple) or len(value) != 3:
        return False
    disc, inertia, stiffness = value
    return is_index(disc, len(machine)) and is_amount(inertia) and is_amount(stiffness)


def check_stock(machine, given):
    """Raise InvalidStock for what is no tuple of one to eight swallowers for the machine."""
    if not isinstance(given, tuple) or not given:
        raise InvalidStock(None)
    for index, swallower in enumerate(given):
        if index == MOST_SWALLOWERS or not is_swallower(machine, swallower):
            raise InvalidStock(index)


def check_room(machine):
    """Raise TooManyDiscs for a machine that has as many discs as one may have."""
    if len(machine) == MOST_DISCS:
        raise TooManyDiscs()


def hung(machine, swallower):
    """Return the machine with a swallower (DISC, J, K)."""
    disc, inertia, stiffness = swallower
    return machine + ((inertia, NOUGHT, disc, stiffness, ONE),)


def inertia_showing(answer, tuned, pace):
    """Return the inertia with which a pace is shown; None if there is none.

    The answer is that of the disc without the swallower, which is tuned to another pace.
    """
    size = ratio_at(answer, pace)
    if size is None or size[0] == 0:
        return None
    inertia = divided(subtracted(tuned, pace), multiplied(multiplied(tuned, pace), size))
    return inertia if is_amount(inertia) else None


def is_quiet_span(machine, low, high):
    """Tell whether the machine has no pace from low up to high."""
    return not has_root_within(end_of_machine(machine), low, high)


def with_swallower(machine, disc, inertia, stiffness):
    """Return the machine with a swallower on a disc."""
    check_machine_and_disc(machine, disc)
    check_amount(inertia, 1)
    check_amount(stiffness, 1)
    check_room(machine)
    return hung(machine, (disc, inertia, stiffness))


def still_paces_at(machine, disc):
    """Return the ascending tuple of the points at which the disc's answer is 0."""
    check_machine_and_disc(machine, disc)
    num, _ = answer_of_root(told_from(machine, disc))
    return told_points(real_places(num))


def tuned_inertia(machine, disc, tuned, pace):
    """Return the inertia with which a tuned swallower makes the pace a shown one; None if there is none."""
    check_machine_and_disc(machine, disc)
    check_tuned(tuned)
    check_pace(pace)
    if pace[0] == 0 or compare_fractions(pace, tuned) == 0:
        return None
    return inertia_showing(answer_of_root(told_from(machine, disc)), tuned, pace)


def quiet_from(machine, disc, tuned, low, high):
    """Return the fraction above which all inertias leave no pace from low up to high; None if there is none."""
    check_machine_and_disc(machine, disc)
    check_tuned(tuned)
    check_span_around(tuned, low, high)
    seen = told_from(machine, disc)
    answer = answer_of_root(seen)
    if has_root_within(answer[0], low, high) or has_root_within(hidden_part(seen), low, high):
        return None
    # At one end at least the answer has the sign with which some inertia shows this end.
    inertias = [inertia_showing(answer, tuned, pace) for pace in (low, high)]
    found = [inertia for inertia in inertias if inertia is not None]
    return found[0] if compare_fractions(found[0], found[-1]) >= 0 else found[-1]


def is_quiet(machine, low, high):
    """Tell whether no pace lies from low up to high."""
    check_machine(machine)
    check_span(low, high)
    return is_quiet_span(machine, low, high)


def quiet_ones(machine, stock, low, high):
    """Return the indexes of those of the stock with each of which, hung alone, no pace lies from low up to high."""
    check_machine(machine)
    check_stock(machine, stock)
    check_span(low, high)
    check_room(machine)
    quiet = [is_quiet_span(hung(machine, swallower), low, high) for swallower in stock]
    return tuple([index for index, is_so in enumerate(quiet) if is_so])
