"""Machines: branched and geared trees of discs, and what they do at their roots."""

from shaftshakes.algebra import reduced, whole_quotient
from shaftshakes.backs import read_back
from shaftshakes.errors import InvalidDisc, InvalidMachine
from shaftshakes.lines import MOST_DISCS, check_line, check_pace
from shaftshakes.rationals import added, is_amount, is_fraction, is_fraction_from_nought, is_index, multiplied
from shaftshakes.repeated import count_roots_below, roots_with_times
from shaftshakes.trees import answer_of_root, end_of_machine, order_from, shaft_of, told_from

NOUGHT = (0, 1)
ONE = (1, 1)


def is_machine_disc(value, place):
    """Tell whether a value, whatever it is, is what can be told of the disc at a place in a machine."""
    if not isinstance(value, tuple) or len(value) != (2 if place == 0 else 5):
        return False
    if not is_amount(value[0]) or not is_fraction_from_nought(value[1]):
        return False
    if place == 0:
        return True
    parent, stiffness, ratio = shaft_of(value)
    return is_index(parent, place) and is_amount(stiffness) and is_fraction(ratio) and ratio[0] != 0


def is_machine(value):
    """Tell whether a value, whatever it is, is a machine."""
    if not isinstance(value, tuple) or not 1 <= len(value) <= MOST_DISCS:
        return False
    return all([is_machine_disc(disc, place) for place, disc in enumerate(value)])


def check_machine(given):
    """Raise InvalidMachine for what is no machine."""
    if not is_machine(given):
        raise InvalidMachine(given)


def check_machine_disc(machine, given):
    """Raise InvalidDisc for what is no index of a disc of the machine."""
    if not is_index(given, len(machine)):
        raise InvalidDisc(given)


def machine_of(line):
    """Return the line as a machine whose root is its first disc."""
    check_line(line)
    discs, shafts = line
    stays = [shafts[0]] + [NOUGHT for _ in discs[1:]]
    stays[-1] = added(stays[-1], shafts[-1])
    machine = [(discs[0], stays[0])]
    for place in range(1, len(discs)):
        machine.append((discs[place], stays[place], place - 1, shafts[place], ONE))
    return tuple(machine)


def ungeared(machine):
    """Return the machine geared out: one with all ratios 1 that answers alike at the root."""
    check_machine(machine)
    squares = [ONE]
    discs = [machine[0]]
    for disc in machine[1:]:
        parent, stiffness, ratio = shaft_of(disc)
        square = multiplied(squares[parent], multiplied(ratio, ratio))
        squares.append(square)
        row = (multiplied(disc[0], square), multiplied(disc[1], square), parent, multiplied(stiffness, square), ONE)
        discs.append(row)
    return tuple(discs)


def machine_end(machine):
    """Return the end, thinned."""
    check_machine(machine)
    return end_of_machine(machine)


def machine_paces(machine):
    """Return the ascending tuple of (POINT, TIMES) of all paces."""
    check_machine(machine)
    return tuple(roots_with_times(end_of_machine(machine)))


def slower_in(machine, pace):
    """Return how many swings are slower than the pace, counted with times."""
    check_machine(machine)
    check_pace(pace)
    return count_roots_below(end_of_machine(machine), pace)


def root_answer(machine):
    """Return the answer of the root, shaken itself, as a pair (NUM, DEN)."""
    check_machine(machine)
    return answer_of_root(machine)


def hidden_part(machine):
    """Return the end divided by the DEN of the root's answer, reduced."""
    _, den = answer_of_root(machine)
    return whole_quotient(reduced(end_of_machine(machine)), reduced(den))


def hidden_end(machine):
    """Return the hidden end: its roots are the paces that the root never shows."""
    check_machine(machine)
    return hidden_part(machine)


def hidden_paces(machine):
    """Return the ascending tuple of (POINT, TIMES) of the paces that the root never shows."""
    check_machine(machine)
    return tuple(roots_with_times(hidden_part(machine)))


def line_alike(machine):
    """Return the line with a free first end that does at its first disc what the machine does at its root."""
    check_machine(machine)
    num, den = answer_of_root(machine)
    return read_back(num, den, NOUGHT)


def are_alike(machine, other):
    """Tell whether two machines are alike at their roots."""
    check_machine(machine)
    check_machine(other)
    return answer_of_root(machine) == answer_of_root(other)


def rerooted(machine, disc):
    """Return the machine told from a disc on."""
    check_machine(machine)
    check_machine_disc(machine, disc)
    return told_from(machine, disc)


def reroot_order(machine, disc):
    """Return the tuple of the old indexes of the discs of the machine told from a disc on."""
    check_machine(machine)
    check_machine_disc(machine, disc)
    return tuple(order_from(machine, disc))
