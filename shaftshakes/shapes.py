"""Shapes: how the discs of a line go in its swings."""

from shaftshakes.algebra import blend
from shaftshakes.errors import InvalidNumber, InvalidShaft
from shaftshakes.lines import check_disc, check_index, check_line, check_shaft
from shaftshakes.places import sign_at_place
from shaftshakes.rationals import is_whole
from shaftshakes.runs import angles_apart, angles_together, end_places, run_parts

MOST_PARTS = 1000000000000


def swing_of(line, index):
    """Return the angles, the torques and the place of the pace of a swing."""
    check_line(line)
    check_index(line, index)
    angles, torques, _ = run_parts(line)
    return (angles, torques, end_places(line)[index])


def signs_of_angles(angles, pace):
    """Return the tuple of the signs of angles at a pace."""
    return tuple([sign_at_place(angle[0], pace) for angle in angles])


def signs_of(line, index):
    """Return the tuple of the signs of all angles in a swing."""
    angles, _, pace = swing_of(line, index)
    return signs_of_angles(angles, pace)


def resting_discs(line, index):
    """Return the ascending tuple of the discs that rest in a swing."""
    signs = signs_of(line, index)
    return tuple([disc for disc, sign in enumerate(signs) if sign == 0])


def untwisted_shafts(line, index):
    """Return the ascending tuple of the inner shafts that are untwisted in a swing."""
    _, torques, pace = swing_of(line, index)
    shafts = []
    # An inner shaft is untwisted where its torque is 0; the torques begin with that of shaft 1.
    for place, torque in enumerate(torques[:-1]):
        if sign_at_place(torque, pace) == 0:
            shafts.append(place + 1)
    return tuple(shafts)


def rest_places(line, index):
    """Return the tuple of all places at rest in a swing, from the first disc on."""
    signs = signs_of(line, index)
    places = []
    for disc, sign in enumerate(signs):
        if disc > 0 and sign * signs[disc - 1] < 0:
            places.append(("shaft", disc))
        if sign == 0:
            places.append(("disc", disc))
    return tuple(places)


def greatest_part(ends, pace, many):
    """Return (n, IS_JUST) for the share of the place at rest between two discs with unlike signs."""
    sign = sign_at_place(ends[0][0], pace)
    apart = angles_apart(ends[0], ends[1])
    ahead = blend(ends[0][0], ends[1][1], (), 0)
    low, high = 0, many
    while high - low > 1:
        half = (low + high) // 2
        # What is left has the sign of the share less half / many, times that of the angle apart.
        left = sign * sign_at_place(blend(ahead, many, apart, -half), pace)
        if left == 0:
            return (half, True)
        if left > 0:
            low = half
        else:
            high = half
    return (low, False)


def rest_share(line, index, shaft, many):
    """Return the share of the place at rest inside a shaft as (n, IS_JUST).

    n is the greatest whole number such that n / many is not above the share.
    """
    angles, _, pace = swing_of(line, index)
    check_shaft(line, shaft)
    # The end shafts have a disc at one end alone.
    ends = angles[shaft - 1:shaft + 1] if shaft > 0 else []
    signs = signs_of_angles(ends, pace)
    if len(ends) < 2 or signs[0] * signs[1] >= 0:
        raise InvalidShaft(shaft)
    if not is_whole(many) or not 1 <= many <= MOST_PARTS:
        raise InvalidNumber(many)
    return greatest_part(ends, pace, many)


def compare_turns(line, index, disc, other):
    """Return the sign of how far a disc turns in a swing less how far another one does."""
    angles, _, pace = swing_of(line, index)
    check_disc(line, disc)
    check_disc(line, other)
    apart = angles_apart(angles[disc], angles[other])
    together = angles_together(angles[disc], angles[other])
    return sign_at_place(apart, pace) * sign_at_place(together, pace)
