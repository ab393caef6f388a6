"""Wishes of a workshop: what is one, which names it has, and whether it holds."""

from shaftshakes.answers import answer_pair
from shaftshakes.changes import change_signs
from shaftshakes.rationals import is_amount, is_span, is_whole
from shaftshakes.runs import count_not_faster, count_slower
from shaftshakes.shapes import resting_discs

LETTERS = "abcdefghijklmnopqrstuvwxyz"
MOST_LETTERS = 12


def is_name(value):
    """Tell whether a value, whatever it is, can be a name."""
    if not isinstance(value, str) or not 1 <= len(value) <= MOST_LETTERS:
        return False
    return all([letter in LETTERS for letter in value])


def is_whole_from_nought(value):
    """Tell whether a value, whatever it is, is a whole number from 0 on."""
    return is_whole(value) and value >= 0


def is_wish(value):
    """Tell whether a value, whatever it is, is a wish."""
    if not isinstance(value, tuple) or len(value) < 3:
        return False
    kind, name = value[:2]
    if not isinstance(kind, str) or not is_name(name):
        return False
    if kind in ("alike", "faster"):
        return len(value) == 3 and is_name(value[2])
    if len(value) != 4:
        return False
    first, second = value[2:]
    if kind == "slower":
        return is_amount(first) and is_whole_from_nought(second)
    if kind == "clear":
        return is_span(first, second)
    return kind == "rests" and is_whole_from_nought(first) and is_whole_from_nought(second)


def names_in(wish):
    """Return the tuple of the names in a wish, in their order."""
    return wish[1:] if len(wish) == 3 else wish[1:2]


def has_resting_disc(line, index, disc):
    """Tell whether the line has such a swing and such a disc, and the disc rests in the swing."""
    return index < len(line[0]) and disc in resting_discs(line, index)


def is_faster(line, other):
    """Tell whether two lines have as many discs, and each swing of the first one is faster."""
    if len(line[0]) != len(other[0]):
        return False
    return all([sign > 0 for sign in change_signs(line, other)])


def does_hold(wish, lines):
    """Tell whether a wish holds for the lines, a dict by names that has all names of the wish."""
    kind = wish[0]
    line = lines[wish[1]]
    if kind == "slower":
        return count_slower(line, wish[2]) == wish[3]
    if kind == "clear":
        return count_not_faster(line, wish[3]) == count_slower(line, wish[2])
    if kind == "rests":
        return has_resting_disc(line, wish[2], wish[3])
    other = lines[wish[2]]
    if kind == "alike":
        return answer_pair(line, 0, 0) == answer_pair(other, 0, 0)
    return is_faster(line, other)
