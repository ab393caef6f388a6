"""Certificates: the claim that is so, with a paper that the checker accepts."""

from shaftshakes.algebra import blend, fraction_sign, product_of
from shaftshakes.answers import check_level, check_two_discs, sign_lot
from shaftshakes.backs import line_of_answer
from shaftshakes.boxes import clashing_line
from shaftshakes.checker import is_louder
from shaftshakes.lines import check_disc
from shaftshakes.machines import are_alike, root_answer
from shaftshakes.orders import stirs
from shaftshakes.papers import shapes_of, twist_product
from shaftshakes.polynomials import count_roots
from shaftshakes.rationals import added, middle
from shaftshakes.readings import amounts_left, parting_pace
from shaftshakes.shapes import resting_discs
from shaftshakes.swallowers import is_quiet

ONE = (1, 1)


def parted_shapes(line, pace):
    """Return the shapes with a product below 0 with themselves, and the other ones."""
    below, others = [], []
    for shape in shapes_of(line, pace):
        if twist_product(line, pace, shape, shape)[0] < 0:
            below.append(shape)
        else:
            others.append(shape)
    return (tuple(below), tuple(others))


def amount_in(stretch):
    """Return an amount that is in a stretch of amounts."""
    low, has_low, high, has_high = stretch
    if has_low:
        return low
    if has_high:
        return high
    return added(low, ONE) if high is None else middle(low, high)


def pace_of_unlike(answer, other):
    """Return a pace, a whole number, at which two unlike answers (NUM, DEN) differ."""
    apart = blend(product_of(answer[0], other[1]), 1, product_of(other[0], answer[1]), -1)
    pace = 0
    while fraction_sign(apart, (pace, 1)) == 0:
        pace += 1
    return (pace, 1)


def certify_roots(polynomial):
    """Tell how many different real roots the polynomial has."""
    return (("roots", polynomial, count_roots(polynomial, None, None)), ())


def certify_least(line, pace):
    """Tell that at least as many swings are slower than the pace as there are."""
    below, _ = parted_shapes(line, pace)
    return (("at least", line, pace, len(below)), below)


def certify_most(line, pace):
    """Tell that at most as many swings are slower than the pace as there are."""
    below, others = parted_shapes(line, pace)
    return (("at most", line, pace, len(below)), others)


def certify_rest(line, index, disc):
    """Tell whether the disc rests in the swing."""
    resting = resting_discs(line, index)
    check_disc(line, disc)
    return (("rests" if disc in resting else "moves", line, index, disc), ())


def certify_box(box, low, high):
    """Tell whether some line of the box has a swing whose pace lies from low up to high."""
    line = clashing_line(box, low, high)
    if line is None:
        return (("clear", box, low, high), ())
    return (("clashes", box, low, high), line)


def certify_louder(line, disc, other, level, pace):
    """Tell whether the answer is louder than the level at the pace, or endless."""
    check_two_discs(line, disc, other)
    check_level(level)
    kind = "louder" if is_louder(line, disc, other, level, pace) else "not louder"
    return ((kind, line, disc, other, level, pace), ())


def certify_signs(line, disc, other, sign):
    """Tell at which paces the answer has the sign."""
    return (("signs", line, disc, other, sign, sign_lot(line, disc, other, sign)), ())


def certify_left(line, slot, readings):
    """Tell whether the line agrees with all readings with some amount in the slot."""
    stretch = amounts_left(line, slot, readings)
    if stretch is None:
        return (("not left", line, slot, readings), ())
    return (("left", line, slot, readings), amount_in(stretch))


def certify_paces(line, other):
    """Tell whether all swings of both lines have the same paces."""
    pace = parting_pace(line, other)
    if pace is None:
        return (("same paces", line, other), ())
    return (("other paces", line, other), pace)


def certify_line(num, den, wall):
    """Tell whether some line with this first stiffness answers so."""
    line = line_of_answer(num, den, wall)
    if line is None:
        return (("no line", num, den, wall), ())
    return (("line of", num, den, wall), line)


def certify_alike(machine, other):
    """Tell whether the machines are alike at their roots."""
    if are_alike(machine, other):
        return (("alike", machine, other), ())
    return (("unlike", machine, other), pace_of_unlike(root_answer(machine), root_answer(other)))


def certify_quiet(machine, low, high):
    """Tell whether some pace of the machine lies from low up to high."""
    return (("quiet" if is_quiet(machine, low, high) else "noisy", machine, low, high), ())


def certify_stir(engine, order, index):
    """Tell whether the order stirs the swing."""
    return (("stirs" if stirs(engine, order, index) else "silent", engine, order, index), ())
