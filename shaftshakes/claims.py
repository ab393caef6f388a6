"""Claims: the form that each kind has, whether or not what it tells is so."""

from shaftshakes.boxes import is_box
from shaftshakes.lines import is_line
from shaftshakes.lots import is_lot
from shaftshakes.machines import is_machine
from shaftshakes.orders import is_engine
from shaftshakes.polynomials import is_polynomial
from shaftshakes.rationals import is_fraction_from_nought, is_index, is_sign, is_span, is_whole
from shaftshakes.readings import are_readings
from shaftshakes.slots import is_slot


def is_polynomial_but_nought(value):
    """Tell whether a value, whatever it is, is a polynomial other than ()."""
    return is_polynomial(value) and len(value) > 0


def is_line_with_two(line, first, second):
    """Tell whether these are a line and two numbers of swings or indexes of discs of it."""
    return is_line(line) and is_index(first, len(line[0])) and is_index(second, len(line[0]))


def are_polynomial_and_count(polynomial, count):
    """Tell whether these are POLYNOMIAL, COUNT."""
    return is_polynomial_but_nought(polynomial) and is_whole(count)


def are_line_pace_and_count(line, pace, count):
    """Tell whether these are LINE, PACE, COUNT."""
    return is_line(line) and is_fraction_from_nought(pace) and is_index(count, len(line[0]) + 1)


def are_line_index_and_disc(line, index, disc):
    """Tell whether these are LINE, INDEX, DISC."""
    return is_line_with_two(line, index, disc)


def are_box_and_span(box, low, high):
    """Tell whether these are BOX, LOW, HIGH."""
    return is_box(box) and is_span(low, high)


def are_discs_level_and_pace(line, disc, other, level, pace):
    """Tell whether these are LINE, DISC, DISC, LEVEL, PACE."""
    return is_line_with_two(line, disc, other) and is_fraction_from_nought(level) and is_fraction_from_nought(pace)


def are_discs_sign_and_lot(line, disc, other, sign, lot):
    """Tell whether these are LINE, DISC, DISC, SIGN, LOT."""
    return is_line_with_two(line, disc, other) and is_sign(sign) and is_lot(lot)


def are_line_slot_and_readings(line, slot, readings):
    """Tell whether these are LINE, SLOT, READINGS."""
    return is_line(line) and is_slot(line, slot) and are_readings(readings)


def are_two_lines(line, other):
    """Tell whether these are LINE, LINE."""
    return is_line(line) and is_line(other)


def are_answer_and_stay(num, den, stay):
    """Tell whether these are NUM, DEN, WALL."""
    return is_polynomial_but_nought(num) and is_polynomial_but_nought(den) and is_fraction_from_nought(stay)


def are_two_machines(machine, other):
    """Tell whether these are MACHINE, MACHINE."""
    return is_machine(machine) and is_machine(other)


def are_machine_and_span(machine, low, high):
    """Tell whether these are MACHINE, LOW, HIGH."""
    return is_machine(machine) and is_span(low, high)


def are_engine_order_and_index(engine, order, index):
    """Tell whether these are ENGINE, ORDER, INDEX."""
    return is_engine(engine) and is_whole(order) and is_index(index, len(engine[0][0]))


FORMS = {
    "roots": are_polynomial_and_count,
    "at least": are_line_pace_and_count,
    "at most": are_line_pace_and_count,
    "rests": are_line_index_and_disc,
    "moves": are_line_index_and_disc,
    "clear": are_box_and_span,
    "clashes": are_box_and_span,
    "louder": are_discs_level_and_pace,
    "not louder": are_discs_level_and_pace,
    "signs": are_discs_sign_and_lot,
    "left": are_line_slot_and_readings,
    "not left": are_line_slot_and_readings,
    "same paces": are_two_lines,
    "other paces": are_two_lines,
    "line of": are_answer_and_stay,
    "no line": are_answer_and_stay,
    "alike": are_two_machines,
    "unlike": are_two_machines,
    "quiet": are_machine_and_span,
    "noisy": are_machine_and_span,
    "stirs": are_engine_order_and_index,
    "silent": are_engine_order_and_index,
}

# How many parts a claim has behind its kind, where these are not three.
SIZES = {
    "roots": 2,
    "louder": 5,
    "not louder": 5,
    "signs": 5,
    "same paces": 2,
    "other paces": 2,
    "alike": 2,
    "unlike": 2,
}


def is_claim(value):
    """Tell whether a value, whatever it is, has the form of a claim for the checker."""
    if not isinstance(value, tuple) or len(value) == 0:
        return False
    kind = value[0]
    parts = value[1:]
    if not isinstance(kind, str) or kind not in FORMS or len(parts) != SIZES.get(kind, 3):
        return False
    is_form = FORMS[kind]
    return is_form(*parts)
