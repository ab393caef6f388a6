"""Changes: lines with one number otherwise, and lines with a disc held."""

from shaftshakes.errors import InvalidAmount, Unlike
from shaftshakes.lines import check_disc, check_line, check_shaft
from shaftshakes.places import compare_places
from shaftshakes.rationals import is_fraction
from shaftshakes.runs import end_places


def check_amount(given, least):
    """Raise InvalidAmount for what is no fraction, or one with a number n below the least one."""
    if not is_fraction(given) or given[0] < least:
        raise InvalidAmount(given)


def with_one(row, place, number):
    """Return a tuple with another element at one place."""
    return row[:place] + (number,) + row[place + 1:]


def with_disc(line, disc, amount):
    """Return the line with this inertia for a disc."""
    check_line(line)
    check_disc(line, disc)
    check_amount(amount, 1)
    return (with_one(line[0], disc, amount), line[1])


def with_shaft(line, shaft, amount):
    """Return the line with this stiffness for a shaft."""
    check_line(line)
    check_shaft(line, shaft)
    is_outer = shaft == 0 or shaft == len(line[0])
    check_amount(amount, 0 if is_outer else 1)
    return (line[0], with_one(line[1], shaft, amount))


def held_parts(line, disc):
    """Return the tuple of the parts that have discs if a disc is held, the one ahead first."""
    check_line(line)
    check_disc(line, disc)
    discs, shafts = line
    ahead = (discs[:disc], shafts[:disc + 1])
    behind = (discs[disc + 1:], shafts[disc + 1:])
    return tuple([part for part in (ahead, behind) if part[0]])


def change_signs(line, other):
    """Return for each swing the sign of its pace less that of the other line's swing."""
    check_line(line)
    check_line(other)
    if len(line[0]) != len(other[0]):
        raise Unlike(other)
    places = end_places(line)
    other_places = end_places(other)
    return tuple([compare_places(places[swing], other_places[swing]) for swing in range(len(places))])
