"""The checker: it accepts a claim with its paper only if the claim is so."""

from shaftshakes.amounts import with_amount
from shaftshakes.answers import answer_at, answer_of, sign_lot
from shaftshakes.backs import line_of_answer
from shaftshakes.boxes import is_clear, is_in_box
from shaftshakes.claims import is_claim
from shaftshakes.lines import is_line, slower_count
from shaftshakes.lots import are_same_lots
from shaftshakes.machines import are_alike, root_answer
from shaftshakes.orders import stirs
from shaftshakes.papers import is_at_least, is_at_most
from shaftshakes.polynomials import count_roots
from shaftshakes.ratios import lowest_ratio, ratio_at
from shaftshakes.rationals import compare_fractions, is_amount, is_fraction_from_nought
from shaftshakes.readings import agrees, amounts_left, parting_pace
from shaftshakes.shapes import resting_discs
from shaftshakes.swallowers import is_quiet


def has_roots(polynomial, count):
    """Tell whether the polynomial has so many different real roots."""
    return count_roots(polynomial, None, None) == count


def does_rest(line, index, disc):
    """Tell whether the disc rests in the swing."""
    return disc in resting_discs(line, index)


def does_move(line, index, disc):
    """Tell whether the disc does not rest in the swing."""
    return not does_rest(line, index, disc)


def is_box_clear(box, low, high):
    """Tell whether no line of the box has a swing whose pace lies from low up to high."""
    return is_clear(box, low, high)


def is_louder(line, disc, other, level, pace):
    """Tell whether the answer is louder than the level at the pace, or endless."""
    answer = answer_at(line, disc, other, pace)
    return answer is None or compare_fractions((abs(answer[0]), answer[1]), level) > 0


def is_not_louder(line, disc, other, level, pace):
    """Tell whether the answer is neither louder than the level at the pace nor endless."""
    return not is_louder(line, disc, other, level, pace)


def has_sign_there(line, disc, other, sign, lot):
    """Tell whether the lot is that of all paces at which the answer has the sign."""
    return are_same_lots(lot, sign_lot(line, disc, other, sign))


def is_none_left(line, slot, readings):
    """Tell whether the line agrees with all readings with no amount in the slot."""
    return amounts_left(line, slot, readings) is None


def have_same_paces(line, other):
    """Tell whether all swings of both lines have the same paces, as many."""
    return parting_pace(line, other) is None


def is_no_line(num, den, stay):
    """Tell whether no line with this first stiffness answers so."""
    return line_of_answer(num, den, stay) is None


def do_alike(machine, other):
    """Tell whether the machines are alike at their roots."""
    return are_alike(machine, other)


def has_no_pace(machine, low, high):
    """Tell whether no pace of the machine lies from low up to high."""
    return is_quiet(machine, low, high)


def has_some_pace(machine, low, high):
    """Tell whether some pace of the machine lies from low up to high."""
    return not is_quiet(machine, low, high)


def is_stirred(engine, order, index):
    """Tell whether the order stirs the swing."""
    return stirs(engine, order, index)


def is_silent(engine, order, index):
    """Tell whether the order leaves the swing silent."""
    return not stirs(engine, order, index)


def shows_at_least(line, pace, count, paper):
    """Tell whether the paper shows that at least so many swings are slower than the pace."""
    return is_at_least(line, pace, count, paper)


def shows_at_most(line, pace, count, paper):
    """Tell whether the paper shows that at most so many swings are slower than the pace."""
    return is_at_most(line, pace, count, paper)


def shows_clash(box, low, high, paper):
    """Tell whether the paper is a line of the box that has a pace from low up to high."""
    return is_line(paper) and is_in_box(box, paper) and not is_clear((paper, paper), low, high)


def shows_left(line, slot, readings, paper):
    """Tell whether the paper is an amount with which the line agrees with all readings."""
    return is_amount(paper) and agrees(with_amount(line, slot, paper), readings)


def shows_other_paces(line, other, paper):
    """Tell whether the paper is a pace above 0 at which the numbers of slower swings are unlike."""
    return is_amount(paper) and slower_count(line, paper) != slower_count(other, paper)


def shows_line(num, den, stay, paper):
    """Tell whether the paper is a line with this first stiffness that answers so."""
    if not is_line(paper) or paper[1][0] != stay:
        return False
    return answer_of(paper, 0, 0) == lowest_ratio(num, den)


def shows_unlike(machine, other, paper):
    """Tell whether the paper is a pace at which the answers differ; one alone may be endless there."""
    if not is_fraction_from_nought(paper):
        return False
    return ratio_at(root_answer(machine), paper) != ratio_at(root_answer(other), paper)


# What a claim tells that needs no paper.
PLAIN = {
    "roots": has_roots,
    "rests": does_rest,
    "moves": does_move,
    "clear": is_box_clear,
    "louder": is_louder,
    "not louder": is_not_louder,
    "signs": has_sign_there,
    "not left": is_none_left,
    "same paces": have_same_paces,
    "no line": is_no_line,
    "alike": do_alike,
    "quiet": has_no_pace,
    "noisy": has_some_pace,
    "stirs": is_stirred,
    "silent": is_silent,
}

# What the paper of each other claim shows.
SHOWN = {
    "at least": shows_at_least,
    "at most": shows_at_most,
    "clashes": shows_clash,
    "left": shows_left,
    "other paces": shows_other_paces,
    "line of": shows_line,
    "unlike": shows_unlike,
}


def accepts(claim, paper):
    """Tell whether a value is a claim for the checker and another one is a paper for it."""
    if not is_claim(claim):
        return False
    parts = claim[1:]
    if claim[0] in PLAIN:
        is_so = PLAIN[claim[0]]
        return isinstance(paper, tuple) and len(paper) == 0 and is_so(*parts)
    shows = SHOWN[claim[0]]
    return shows(*parts, paper)
