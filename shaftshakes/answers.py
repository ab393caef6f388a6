"""Answers: how a disc of a line goes when another one, or it itself, is shaken."""

from shaftshakes.algebra import blend, product_of
from shaftshakes.conditions import lot_where
from shaftshakes.errors import InvalidFraction, InvalidSign
from shaftshakes.lines import check_disc, check_line, check_pace
from shaftshakes.lots import check_pace_point
from shaftshakes.places import real_places, sign_at_place
from shaftshakes.ratios import lowest_ratio, ratio_at
from shaftshakes.rationals import is_fraction_from_nought, is_sign
from shaftshakes.runs import run_parts
from shaftshakes.telling import told_points


def check_two_discs(line, disc, other):
    """Raise InvalidLine or InvalidDisc for what is no line, or no index of a disc of it."""
    check_line(line)
    check_disc(line, disc)
    check_disc(line, other)


def check_level(given):
    """Raise InvalidFraction for what is no fraction from 0 on."""
    if not is_fraction_from_nought(given):
        raise InvalidFraction(given)


def answer_pair(line, disc, other):
    """Return the answer H_ij = t_i r_j / END as a pair (NUM, DEN)."""
    first, second = min(disc, other), max(disc, other)
    angles, _, end = run_parts(line)
    end_scale = angles[-1][1] * line[0][-1][1] * line[1][-1][1]
    mirrored = run_parts((line[0][::-1], line[1][::-1]))[0]
    turn, scale = angles[first]
    back_turn, back_scale = mirrored[len(line[0]) - 1 - second]
    num = blend(product_of(turn, back_turn), end_scale, (), 0)
    return lowest_ratio(num, blend(end, scale * back_scale, (), 0))


def points_of_roots(polynomial):
    """Return the ascending tuple of the points of all real roots."""
    return told_points(real_places(polynomial))


def answer_of(line, disc, other):
    """Return the pair (NUM, DEN) of the answer of the other disc when the first one is shaken."""
    check_two_discs(line, disc, other)
    return answer_pair(line, disc, other)


def answer_at(line, disc, other, pace):
    """Return the answer at a pace, a fraction; None where it is endless."""
    check_two_discs(line, disc, other)
    check_pace(pace)
    return ratio_at(answer_pair(line, disc, other), pace)


def answer_sign(line, disc, other, point):
    """Return the sign of the answer at a point; None where it is endless."""
    check_two_discs(line, disc, other)
    place = check_pace_point(point, {})
    num, den = answer_pair(line, disc, other)
    below = sign_at_place(den, place)
    return None if below == 0 else below * sign_at_place(num, place)


def still_paces(line, disc, other):
    """Return the ascending tuple of the points at which the answer is 0."""
    check_two_discs(line, disc, other)
    return points_of_roots(answer_pair(line, disc, other)[0])


def loud_paces(line, disc, other):
    """Return the ascending tuple of the points at which the answer is endless."""
    check_two_discs(line, disc, other)
    return points_of_roots(answer_pair(line, disc, other)[1])


def sign_lot(line, disc, other, sign):
    """Return the lot of all paces at which the answer has the sign; endless it has none."""
    check_two_discs(line, disc, other)
    if not is_sign(sign):
        raise InvalidSign(sign)
    num, den = answer_pair(line, disc, other)
    # Where the answer is endless, the numerator alone is not 0.
    if sign == 0:
        return lot_where([num], lambda place: sign_at_place(num, place) == 0)
    return lot_where([num, den], lambda place: sign_at_place(num, place) * sign_at_place(den, place) == sign)


def louder_lot(line, disc, other, level):
    """Return the lot of all paces at which the answer is louder than the level, or endless."""
    check_two_discs(line, disc, other)
    check_level(level)
    num, den = answer_pair(line, disc, other)
    # Both together are m m NUM NUM - n n DEN DEN; apart, they have shorter numbers.
    above = blend(num, level[1], den, -level[0])
    below = blend(num, level[1], den, level[0])
    return lot_where([above, below], lambda place: sign_at_place(above, place) * sign_at_place(below, place) > 0)
