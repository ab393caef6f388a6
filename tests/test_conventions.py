"""Arguments: names, wrong ones, several wrong ones, and the interface as the document lists it."""

import copy
import inspect
import itertools
import unittest

from odd import Odd
from shaftshakes import amounts, answers, backs, boxes, certificates, changes, checker, consoles, errors, lines, lots
from shaftshakes import machines, orders, papers, points, polynomials, readings, shapes, speeds, swallowers, workshops


def nested(depth):
    value = 1
    for _ in range(depth):
        value = (value,)
    return value


# What is right for no parameter at all.
ALWAYS_WRONG = [True, False, "", "(1, 2)", "12", b"ab", b"", [], [1, 2], [(1, 2), 0], {}, {1: 2}, {1, 2},
                object(), Odd(), (Odd(), Odd()), (1, Odd()), int, len, Ellipsis, range(2), nested(14), ((),),
                ([], 0), ([-2, 0, 1], 0), ((1, True), 2), (True, 1), (1, True), (True, True), (None, None),
                (1, 0), (1, -2), (2, 4), (0, 2), (-3, 3), ("1", "2"), ((-2, 0, 1), "0"), ((-2, 0, 1), True),
                [[], []], ((), ()), (((),), ((),)), ((True,), (1,)), (((1, 1),), [(0, 1), (0, 1)]),
                ([(1, 1)], ((0, 1), (0, 1)))]

FRACTION, KNOT, POLYNOMIAL = (-3, 7), ((-2, 0, 1), 1), (2, -4, -1, 2)
THREE = (((1, 1), (1, 1), (1, 1)), ((0, 1), (1, 1), (1, 1), (0, 1)))
HELD = (((1, 1), (2, 1)), ((1, 1), (1, 2), (0, 1)))
LOT = (((0, 1), True, ((-2, 0, 1), 1), False), ((3, 2), True, None, False))

NO_KNOTS = [((-2, 0, 1), 2), ((-2, 0, 1), -1), ((-4, 0, 2), 0), ((2, 0, -1), 0), ((-1, 0, 1), 0),
            ((4, 0, -4, 0, 1), 0),
            ((0, -2, 0, 1), 0), ((1, 0, 1), 0), ((-2, 1), 0), ((5,), 0), ((), 0), ((-2, 0, 1, 0), 0),
            ((-2, 0, 1), (0, 1)),
            ((-2, 0, 1), None), ((-2, 0, 1), 1, 1), ((-2, 0, 1),), (0, (-2, 0, 1)), ((2, -4, -1, 2), 0)]
NO_POLYNOMIALS = [None, 0, 1, -2, (0,), (1, 0), (0, 0), (1, 2, 0), (1, "2"), (1, (2,)), (1, None), ((1, 2), (3, 4)),
                  [1, 2]]
NO_FRACTIONS = [0, 1, -1, (), (1,), (1, 2, 3), (4, 2), (0, 3), (0, -1), (1, -1), (3, 0), (1, 2, 1), ((1, 2), (3, 4)),
                KNOT]
NO_POINTS = [None] + NO_KNOTS + [0, 1, -1, (), (1,), (1, 2, 3), (4, 2), (0, 3), (3, 0), (1, -1)]
NO_LOTS = [None, 0, (0, 1), (1, 2), (((0, 1), True, (1, 1), True, 1),), (((0, 1), True, (1, 1)),),
           ((0, 1), True, (1, 1), True), [((0, 1), True, (1, 1), True)], ([(0, 1), True, (1, 1), True],),
           (((0, 1), 1, (1, 1), 1),), (((0, 1), True, (1, 1), 0),), (((0, 1), 0, (1, 1), True),),
           (((0, 1), None, (1, 1), True),), (((0, 1), True, (1, 1), None),),
           (((0, 1), True, None, True),), ((None, False, (1, 1), True),), (((-1, 1), True, (1, 1), True),),
           (((-1, 1), True, (-1, 2), True), ((0, 1), True, None, False)), ((((-2, 0, 1), 0), True, (1, 1), True),),
           (((1, 1), True, (0, 1), True),), (((1, 1), True, (1, 1), False),), (((1, 1), False, (1, 1), True),),
           (((1, 1), False, (1, 1), False),), (((0, 1), True, None, False), ((1, 1), True, (2, 1), True)),
           (((0, 1), True, None, False), ((1, 1), True, None, False)),
           (((0, 1), True, (1, 1), True), ((1, 1), True, (2, 1), True)),
           (((0, 1), True, (1, 1), True), ((1, 1), False, (2, 1), True)),
           (((0, 1), True, (1, 1), False), ((1, 1), True, (2, 1), True)),
           (((0, 1), True, (2, 1), True), ((1, 1), True, (3, 1), True)),
           (((2, 1), True, (3, 1), True), ((0, 1), True, (1, 1), True)),
           (((0, 1), True, KNOT, True), (((6, 0, -5, 0, 1), 2), False, None, False)),
           (((0, 1), True, KNOT, False), (((6, 0, -5, 0, 1), 2), True, None, False)),
           ((KNOT, True, ((6, 0, -5, 0, 1), 2), False),), (((0, 1), True, (2, 2), True),)]
NO_LINES = [None, 0, (), ((), ()), ((), ((0, 1),)), (((1, 1),), ((0, 1),)), (((1, 1),), ((0, 1), (0, 1), (0, 1))),
            (((0, 1),), ((0, 1), (0, 1))), (((-1, 1),), ((0, 1), (0, 1))), (((1, 1),), ((-1, 1), (0, 1))),
            (((1, 1),), ((0, 1), (-1, 1))), (((2, 2),), ((0, 1), (0, 1))), (((1, 1),), ((0, 2), (0, 1))),
            (((1, 1), (1, 1)), ((0, 1), (0, 1), (0, 1))), (((1, 1), (1, 1)), ((0, 1), (-1, 1), (0, 1))),
            ((1, 1), ((0, 1), (0, 1))), (((1, 1),), ((0, 1), (0, 1)), ()), [((1, 1),), ((0, 1), (0, 1))],
            (((1, 1),), ((0, 1), None)), ((None,), ((0, 1), (0, 1))), (((1, 1),), ((0, 1), KNOT)),
            (((1, 1),) * 9, ((1, 1),) * 10), (((True, 1),), ((0, 1), (0, 1)))]
NO_INDEXES_OF_THREE = [None, -1, 3, 4, 10 ** 30, (0, 1), (1, 1), "0", ()]
NO_INDEXES_OF_TWO = [None, -1, 2, (0, 1), ()]
NO_SHAFTS_OF_THREE = [None, -1, 4, 10 ** 30, (0, 1), "0", ()]
NO_NUMBERS = [None, 0, -1, 10 ** 12 + 1, (1, 1), ()]
BELOW_NOUGHT = [(-1, 1), (-1, 10 ** 300)]
NO_AMOUNTS = NO_FRACTIONS + [None, (0, 1)] + BELOW_NOUGHT

POLYNOMIAL_KIND = ("InvalidPolynomial", POLYNOMIAL, NO_POLYNOMIALS)
FRACTION_KIND = ("InvalidFraction", FRACTION, NO_FRACTIONS + [None])
BOUND_KIND = ("InvalidFraction", FRACTION, NO_FRACTIONS)
WIDTH_KIND = ("InvalidFraction", (1, 9), NO_FRACTIONS + [None, (0, 1)] + BELOW_NOUGHT)
POINT_KIND = ("InvalidPoint", KNOT, NO_POINTS)
OTHER_POINT_KIND = ("InvalidPoint", (1, 2), NO_POINTS)
PACE_POINT_KIND = ("InvalidPoint", KNOT, NO_POINTS + BELOW_NOUGHT + [((-2, 0, 1), 0), ((6, 0, -5, 0, 1), 1)])
LOT_KIND = ("InvalidLot", LOT, NO_LOTS)
LINE_KIND = ("InvalidLine", THREE, NO_LINES)
HELD_KIND = ("InvalidLine", HELD, NO_LINES)
INDEX_KIND = ("InvalidIndex", 2, NO_INDEXES_OF_THREE)
DISC_KIND = ("InvalidDisc", 1, NO_INDEXES_OF_THREE)
SHAFT_KIND = ("InvalidShaft", 1, NO_SHAFTS_OF_THREE)
REST_SHAFT_KIND = ("InvalidShaft", 1, NO_SHAFTS_OF_THREE + [0, 3])
PACE_KIND = ("InvalidPace", (1, 2), NO_FRACTIONS + [None] + BELOW_NOUGHT)
AMOUNT_KIND = ("InvalidAmount", (5, 2), NO_AMOUNTS)
BOX = ((((1, 1), (2, 1), (1, 1)), THREE[1]), THREE)
MACHINE = (((1, 1), (0, 1)), ((1, 1), (0, 1), 0, (1, 1), (2, 1)), ((3, 1), (1, 2), 0, (1, 1), (-1, 2)))
NO_BOXES = [None, 0, (), THREE, (THREE,), (THREE, THREE, THREE), BOX[::-1], (HELD, THREE), (THREE, HELD), (BOX, BOX),
            [THREE, THREE], (list(THREE), THREE), (THREE, None), (None, THREE), (MACHINE, MACHINE)]
NO_MACHINES = [None, 0, (), THREE, BOX, MACHINE[1:], MACHINE[:1] * 2, MACHINE[:1] + MACHINE[1:] * 4, list(MACHINE),
               (((1, 1), (0, 1), 0, (1, 1), (1, 1)),), (((1, 1),),), (((0, 1), (0, 1)),), (((1, 1), (-1, 1)),),
               ([(1, 1), (0, 1)],), MACHINE[:1] + (((1, 1), (0, 1), 1, (1, 1), (1, 1)),),
               MACHINE[:1] + (((1, 1), (0, 1), False, (1, 1), (1, 1)),),
               MACHINE[:1] + (((1, 1), (0, 1), -1, (1, 1), (1, 1)),),
               MACHINE[:1] + (((1, 1), (0, 1), 0, (0, 1), (1, 1)),),
               MACHINE[:1] + (((1, 1), (0, 1), 0, (1, 1), (0, 1)),),
               MACHINE[:1] + (((1, 1), (0, 1), 0, (1, 1)),), MACHINE[:1] + (((1, 1), (0, 1), 0, (1, 1), 1),)]
NO_SLOTS = [None, 0, (), ("disc",), ("disc", 0, 0), ("disc", -1), ("disc", 3), ("shaft", 4), ("shaft", -1), ("disk", 0),
            ("disc", True), ("disc", None), ("disc", (0, 1)), (0, "disc"), ["disc", 0], (None, 0), ("", 0), (b"disc", 0),
            ("disc", "0"), (("disc", 0),), ("shaft", 10 ** 30)]
NO_SIGNS = [None, 2, -2, 10 ** 30, (1, 1), (), "1"]
NO_MOST = [None, 0, -1, 31, 10 ** 30, (1, 1), (), "1"]
NO_SHAPES = [None, 0, (), (1, 2), (1, 2, 3, 4), (1, 2, True), (1, 2, None), (1, 2, "3"), [1, 2, 3], ((1, 1),) * 3]
NO_COUNTS = [None, -1, 4, 10 ** 30, (1, 1), (), "1"]
READINGS = (((1, 2), 1), ((7, 2), 3))
NO_READINGS = [None, 0, (), ((1, 2), 1), (((0, 1), 1),), (READINGS[0], None), READINGS * 5, READINGS * 4 + (None,),
               READINGS + (((1, 2), -1),), READINGS + (((1, 2), True),), READINGS + (((1, 2),),), list(READINGS),
               (list(READINGS[0]),), (((1, 2), 1, 1),), ((KNOT, 1),), ((1, (1, 2)),), READINGS * 3 + ((1, 2),)]
NO_PACES = NO_FRACTIONS + [None] + BELOW_NOUGHT

SWALLOWER = (0, (1, 6), (2, 3))
STOCK = (SWALLOWER, (2, (1, 20), (1, 5)))
NO_STOCKS = [None, 0, (), SWALLOWER, list(STOCK), STOCK * 5, STOCK * 4 + (None,), (SWALLOWER, None), (SWALLOWER[:2],),
             (SWALLOWER + (1,),), (SWALLOWER, (3,) + SWALLOWER[1:]), ((-1,) + SWALLOWER[1:],),
             ((True,) + SWALLOWER[1:],), ((0, (0, 1), (1, 1)),), (SWALLOWER, SWALLOWER, (0, (1, 1), (0, 1))),
             ((0, (1, 1), (2, 2)),), (list(SWALLOWER),)]
CRANKS = ((0, 0, (1, 1)), (2, 11, (-3, 7)))
ENGINE = (THREE, CRANKS)
NO_ENGINES = [None, 0, (), THREE, CRANKS, BOX, (THREE,), (THREE, ()), (THREE, CRANKS, 0), (THREE, CRANKS * 5),
              (CRANKS, THREE), [THREE, CRANKS], (THREE, list(CRANKS)), (THREE, CRANKS[0]), (THREE, (list(CRANKS[0]),)),
              (None, CRANKS), (THREE, (CRANKS[0], None)), (THREE, ((3, 0, (1, 1)),)), (THREE, ((0, 12, (1, 1)),)),
              (THREE, ((0, -1, (1, 1)),)), (THREE, ((0, True, (1, 1)),)), (THREE, ((0, 0, (0, 1)),)),
              (THREE, ((0, 0, (2, 2)),)), (HELD, CRANKS)]
NO_ORDERS = [None, (1, 1), (), "1", (1,), KNOT]

NUMBER_KIND = ("InvalidNumber", 1, NO_INDEXES_OF_TWO)
BOX_KIND = ("InvalidBox", BOX, NO_BOXES)
MACHINE_KIND = ("InvalidMachine", MACHINE, NO_MACHINES)
OTHER_MACHINE_KIND = ("InvalidMachine", MACHINE[:2], NO_MACHINES)
SLOT_KIND = ("InvalidSlot", ("shaft", 1), NO_SLOTS)
SIGN_KIND = ("InvalidSign", -1, NO_SIGNS)
LEVEL_KIND = ("InvalidFraction", (1, 2), NO_PACES)
MOST_KIND = ("InvalidNumber", 3, NO_MOST)
LOW_KIND = ("InvalidPace", (5, 2), NO_PACES)
HIGH_KIND = ("InvalidPace", (11, 4), NO_PACES + [(5, 2), (2, 1), (0, 1)])
SHAPE_KIND = ("InvalidShape", (1, -2, 10 ** 30), NO_SHAPES)
MOVED_SHAPE_KIND = ("InvalidShape", (1, 0, 0), NO_SHAPES + [(0, 0, 0)])
COUNT_KIND = ("InvalidNumber", 1, NO_COUNTS)
READINGS_KIND = ("InvalidReadings", READINGS, NO_READINGS)
DIVIDED_KIND = ("InvalidPolynomial", (1, -1), NO_POLYNOMIALS + [()])
DIVISOR_KIND = ("InvalidPolynomial", (0, -2, 1), NO_POLYNOMIALS + [()])
INERTIA_KIND = ("InvalidAmount", (1, 12), NO_AMOUNTS)
TUNED_KIND = ("InvalidPace", (3, 1), NO_AMOUNTS)
LOW_AROUND_KIND = ("InvalidPace", (5, 2), NO_AMOUNTS + [(3, 1), (7, 2)])
HIGH_AROUND_KIND = ("InvalidPace", (7, 2), NO_AMOUNTS + [(3, 1), (5, 2), (1, 2)])
STOCK_KIND = ("InvalidStock", STOCK, NO_STOCKS)
ENGINE_KIND = ("InvalidEngine", ENGINE, NO_ENGINES)
ARRANGED_KIND = ("InvalidEngine", ENGINE, NO_ENGINES + [(THREE, CRANKS * 4), (THREE, CRANKS * 3 + CRANKS[:1])])
ORDER_KIND = ("InvalidOrder", -5, NO_ORDERS)
OTHER_ORDER_KIND = ("InvalidOrder", 0, NO_ORDERS)
TURNING_KIND = ("InvalidOrder", -5, NO_ORDERS + [0])
# What may be passed whatever it is.
ANY_KIND = (None, ((1, 1, 1),), [])
MANY_KIND = ("InvalidNumber", 10, NO_NUMBERS)

INTERFACE = {
    polynomials: {
        "value_at": {"polynomial": POLYNOMIAL_KIND, "fraction": FRACTION_KIND},
        "common_divisor": {"polynomial": POLYNOMIAL_KIND, "other": POLYNOMIAL_KIND},
        "plain_polynomial": {"polynomial": POLYNOMIAL_KIND},
        "times_of": {"polynomial": POLYNOMIAL_KIND, "fraction": FRACTION_KIND},
        "count_roots": {"polynomial": POLYNOMIAL_KIND, "low": BOUND_KIND, "high": BOUND_KIND},
    },
    points: {
        "roots_of": {"polynomial": POLYNOMIAL_KIND},
        "sign_at": {"polynomial": POLYNOMIAL_KIND, "point": POINT_KIND},
        "compare_points": {"point": POINT_KIND, "other": OTHER_POINT_KIND},
        "fraction_between": {"point": POINT_KIND, "other": OTHER_POINT_KIND},
        "enclosed": {"point": POINT_KIND, "fraction": WIDTH_KIND},
    },
    lots: {
        "lot_holds": {"lot": LOT_KIND, "point": PACE_POINT_KIND},
        "lot_both": {"lot": LOT_KIND, "other": LOT_KIND},
        "lot_either": {"lot": LOT_KIND, "other": LOT_KIND},
        "lot_rest": {"lot": LOT_KIND},
        "are_same_lots": {"lot": LOT_KIND, "other": LOT_KIND},
        "any_pace": {"lot": LOT_KIND},
    },
    lines: {
        "run_of": {"line": LINE_KIND},
        "paces_of": {"line": LINE_KIND},
        "slower_count": {"line": LINE_KIND, "pace": PACE_KIND},
        "compare_pace": {"line": LINE_KIND, "index": INDEX_KIND, "point": POINT_KIND},
        "compare_swings": {"line": LINE_KIND, "index": INDEX_KIND, "other": HELD_KIND, "number": NUMBER_KIND},
        "mirrored_line": {"line": LINE_KIND},
    },
    shapes: {
        "signs_of": {"line": LINE_KIND, "index": INDEX_KIND},
        "resting_discs": {"line": LINE_KIND, "index": INDEX_KIND},
        "untwisted_shafts": {"line": LINE_KIND, "index": INDEX_KIND},
        "rest_places": {"line": LINE_KIND, "index": INDEX_KIND},
        "rest_share": {"line": LINE_KIND, "index": INDEX_KIND, "shaft": REST_SHAFT_KIND, "many": MANY_KIND},
        "compare_turns": {"line": LINE_KIND, "index": INDEX_KIND, "disc": DISC_KIND, "other": DISC_KIND},
    },
    changes: {
        "with_disc": {"line": LINE_KIND, "disc": DISC_KIND, "amount": AMOUNT_KIND},
        "with_shaft": {"line": LINE_KIND, "shaft": SHAFT_KIND, "amount": AMOUNT_KIND},
        "held_parts": {"line": LINE_KIND, "disc": DISC_KIND},
        "change_signs": {"line": LINE_KIND, "other": ("InvalidLine", THREE, NO_LINES)},
    },
    boxes: {
        "is_in_box": {"box": BOX_KIND, "line": LINE_KIND},
        "box_range": {"box": BOX_KIND, "index": INDEX_KIND},
        "box_counts": {"box": BOX_KIND, "pace": PACE_KIND},
        "is_clear": {"box": BOX_KIND, "low": LOW_KIND, "high": HIGH_KIND},
        "clashing_line": {"box": BOX_KIND, "low": LOW_KIND, "high": HIGH_KIND},
        "clashing_orders": {"box": BOX_KIND, "most": MOST_KIND, "low": LOW_KIND, "high": HIGH_KIND},
        "slowing_slots": {"box": BOX_KIND, "index": INDEX_KIND, "pace": PACE_KIND},
        "quickening_slots": {"box": BOX_KIND, "index": INDEX_KIND, "pace": PACE_KIND},
    },
    answers: {
        "answer_of": {"line": LINE_KIND, "disc": DISC_KIND, "other": DISC_KIND},
        "answer_at": {"line": LINE_KIND, "disc": DISC_KIND, "other": DISC_KIND, "pace": PACE_KIND},
        "answer_sign": {"line": LINE_KIND, "disc": DISC_KIND, "other": DISC_KIND, "point": PACE_POINT_KIND},
        "still_paces": {"line": LINE_KIND, "disc": DISC_KIND, "other": DISC_KIND},
        "loud_paces": {"line": LINE_KIND, "disc": DISC_KIND, "other": DISC_KIND},
        "sign_lot": {"line": LINE_KIND, "disc": DISC_KIND, "other": DISC_KIND, "sign": SIGN_KIND},
        "louder_lot": {"line": LINE_KIND, "disc": DISC_KIND, "other": DISC_KIND, "level": LEVEL_KIND},
    },
    amounts: {
        "slot_polynomials": {"line": LINE_KIND, "slot": SLOT_KIND},
        "with_amount": {"line": LINE_KIND, "slot": SLOT_KIND, "amount": AMOUNT_KIND},
        "count_with": {"line": LINE_KIND, "slot": SLOT_KIND, "amount": AMOUNT_KIND, "pace": PACE_KIND},
        "turning_amount": {"line": LINE_KIND, "slot": SLOT_KIND, "pace": PACE_KIND},
        "counts_by_amount": {"line": LINE_KIND, "slot": SLOT_KIND, "pace": PACE_KIND},
        "pace_limits": {"line": LINE_KIND, "slot": SLOT_KIND},
        "amounts_slower": {"line": LINE_KIND, "slot": SLOT_KIND, "index": INDEX_KIND, "pace": PACE_KIND},
    },
    readings: {
        "agrees": {"line": LINE_KIND, "readings": READINGS_KIND},
        "amounts_left": {"line": LINE_KIND, "slot": SLOT_KIND, "readings": READINGS_KIND},
        "slots_left": {"line": LINE_KIND, "readings": READINGS_KIND},
        "parting_pace": {"line": LINE_KIND, "other": HELD_KIND},
    },
    papers: {
        "twist_product": {"line": LINE_KIND, "pace": PACE_KIND, "shape": SHAPE_KIND, "other": SHAPE_KIND},
        "quotient_of": {"line": LINE_KIND, "shape": MOVED_SHAPE_KIND},
        "shapes_of": {"line": LINE_KIND, "pace": PACE_KIND},
        "is_at_least": {"line": LINE_KIND, "pace": PACE_KIND, "count": COUNT_KIND, "value": ANY_KIND},
        "is_at_most": {"line": LINE_KIND, "pace": PACE_KIND, "count": COUNT_KIND, "value": ANY_KIND},
    },
    backs: {
        "line_of_answer": {"num": DIVIDED_KIND, "den": DIVISOR_KIND, "wall": LEVEL_KIND},
        "greatest_stay": {"num": DIVIDED_KIND, "den": DIVISOR_KIND},
        "rewalled": {"line": LINE_KIND, "wall": LEVEL_KIND},
        "line_of_paces": {"free": DIVISOR_KIND, "held": DIVIDED_KIND},
    },
    machines: {
        "machine_of": {"line": LINE_KIND},
        "ungeared": {"machine": MACHINE_KIND},
        "machine_end": {"machine": MACHINE_KIND},
        "machine_paces": {"machine": MACHINE_KIND},
        "slower_in": {"machine": MACHINE_KIND, "pace": PACE_KIND},
        "root_answer": {"machine": MACHINE_KIND},
        "hidden_end": {"machine": MACHINE_KIND},
        "hidden_paces": {"machine": MACHINE_KIND},
        "line_alike": {"machine": MACHINE_KIND},
        "are_alike": {"machine": MACHINE_KIND, "other": OTHER_MACHINE_KIND},
        "rerooted": {"machine": MACHINE_KIND, "disc": DISC_KIND},
        "reroot_order": {"machine": MACHINE_KIND, "disc": DISC_KIND},
    },
    swallowers: {
        "with_swallower": {"machine": MACHINE_KIND, "disc": DISC_KIND, "inertia": INERTIA_KIND,
                           "stiffness": INERTIA_KIND},
        "still_paces_at": {"machine": MACHINE_KIND, "disc": DISC_KIND},
        "tuned_inertia": {"machine": MACHINE_KIND, "disc": DISC_KIND, "tuned": TUNED_KIND, "pace": PACE_KIND},
        "quiet_from": {"machine": MACHINE_KIND, "disc": DISC_KIND, "tuned": TUNED_KIND, "low": LOW_AROUND_KIND,
                       "high": HIGH_AROUND_KIND},
        "is_quiet": {"machine": MACHINE_KIND, "low": LOW_KIND, "high": HIGH_KIND},
        "quiet_ones": {"machine": MACHINE_KIND, "stock": STOCK_KIND, "low": LOW_KIND, "high": HIGH_KIND},
    },
    orders: {
        "stir_parts": {"engine": ENGINE_KIND, "order": ORDER_KIND},
        "stirs": {"engine": ENGINE_KIND, "order": ORDER_KIND, "index": INDEX_KIND},
        "silent_orders": {"engine": ENGINE_KIND, "index": INDEX_KIND},
        "compare_stirs": {"engine": ENGINE_KIND, "order": ORDER_KIND, "other": OTHER_ORDER_KIND, "index": INDEX_KIND},
        "quiet_arrangements": {"engine": ARRANGED_KIND, "order": ORDER_KIND, "index": INDEX_KIND},
    },
    speeds: {
        "speed_of": {"engine": ENGINE_KIND, "order": TURNING_KIND, "index": INDEX_KIND},
        "compare_speed": {"engine": ENGINE_KIND, "order": TURNING_KIND, "index": INDEX_KIND, "point": POINT_KIND},
        "critical_speeds": {"engine": ENGINE_KIND, "most": MOST_KIND},
        "clear_speeds": {"engine": ENGINE_KIND, "most": MOST_KIND},
        "is_clear_speed": {"engine": ENGINE_KIND, "most": MOST_KIND, "low": LOW_KIND, "high": HIGH_KIND},
    },
    checker: {
        "accepts": {"claim": ANY_KIND, "paper": ANY_KIND},
    },
    certificates: {
        "certify_roots": {"polynomial": POLYNOMIAL_KIND},
        "certify_least": {"line": LINE_KIND, "pace": PACE_KIND},
        "certify_most": {"line": LINE_KIND, "pace": PACE_KIND},
        "certify_rest": {"line": LINE_KIND, "index": INDEX_KIND, "disc": DISC_KIND},
        "certify_box": {"box": BOX_KIND, "low": LOW_KIND, "high": HIGH_KIND},
        "certify_louder": {"line": LINE_KIND, "disc": DISC_KIND, "other": DISC_KIND, "level": LEVEL_KIND,
                           "pace": PACE_KIND},
        "certify_signs": {"line": LINE_KIND, "disc": DISC_KIND, "other": DISC_KIND, "sign": SIGN_KIND},
        "certify_left": {"line": LINE_KIND, "slot": SLOT_KIND, "readings": READINGS_KIND},
        "certify_paces": {"line": LINE_KIND, "other": HELD_KIND},
        "certify_line": {"num": DIVIDED_KIND, "den": DIVISOR_KIND, "wall": LEVEL_KIND},
        "certify_alike": {"machine": MACHINE_KIND, "other": OTHER_MACHINE_KIND},
        "certify_quiet": {"machine": MACHINE_KIND, "low": LOW_KIND, "high": HIGH_KIND},
        "certify_stir": {"engine": ENGINE_KIND, "order": ORDER_KIND, "index": INDEX_KIND},
    },
}
ASKED = {polynomials: ["is_polynomial"], points: ["is_knot", "is_point"], lots: ["is_lot"], lines: ["is_line"],
         boxes: ["is_box"], machines: ["is_machine"], orders: ["is_engine"]}


def wrong_values(kind):
    """What is wrong for a kind: values that are wrong for all, and those told for it."""
    name, _, told = kind
    if name is None:
        return []
    always = ALWAYS_WRONG
    if name == "InvalidPolynomial":
        # What is no fraction may well be a polynomial.
        always = [value for value in always if not looks_like_a_polynomial(value)]
    return always + told


def looks_like_a_polynomial(value):
    return type(value) is tuple and all(type(part) is int for part in value) and (not value or value[-1] != 0)


def first_wrong_reading(value):
    """The index that is told of what are no readings."""
    if type(value) is not tuple:
        return None
    if len(value) == 0:
        return 0
    for index, reading in enumerate(value):
        if index == 8 or type(reading) is not tuple or len(reading) != 2:
            return index
        if type(reading[1]) is not int or reading[1] < 0 or type(reading[0]) is not tuple:
            return index
        if len(reading[0]) != 2 or type(reading[0][0]) is not int or reading[0][0] <= 0:
            return index
    raise AssertionError("these are readings")


def first_wrong_swallower(value):
    """The index that is told of what is no stock for MACHINE."""
    if type(value) is not tuple or len(value) == 0:
        return None
    for index, swallower in enumerate(value):
        if index == 8 or type(swallower) is not tuple or len(swallower) != 3:
            return index
        disc, *amounts_told = swallower
        if type(disc) is not int or not 0 <= disc < len(MACHINE):
            return index
        if [each for each in amounts_told if type(each) is not tuple or each[0] <= 0 or each == (2, 2)]:
            return index
    raise AssertionError("this is a stock")


def functions():
    for module, table in INTERFACE.items():
        for name, kinds in table.items():
            yield getattr(module, name), kinds


class Interface(unittest.TestCase):
    def test_names_and_parameters(self):
        for function, kinds in functions():
            with self.subTest(function=function.__name__):
                parameters = list(inspect.signature(function).parameters.values())
                self.assertEqual(list(kinds), [each.name for each in parameters])
                for each in parameters:
                    self.assertEqual(each.POSITIONAL_OR_KEYWORD, each.kind)
                    self.assertIs(each.empty, each.default)
        for module, names in ASKED.items():
            for name in names:
                self.assertEqual(["value"], list(inspect.signature(getattr(module, name)).parameters))

    def test_each_stands_in_its_own_file(self):
        for module in INTERFACE:
            for name in list(INTERFACE[module]) + ASKED.get(module, []):
                self.assertEqual(module.__name__, getattr(module, name).__module__)

    def test_by_position_and_by_name_and_twice(self):
        for function, kinds in functions():
            with self.subTest(function=function.__name__):
                right = {name: kind[1] for name, kind in kinds.items()}
                before = copy.deepcopy(right)
                found = function(*right.values())
                self.assertEqual(found, function(**right))
                self.assertEqual(found, function(**dict(reversed(right.items()))))
                self.assertEqual(found, function(*right.values()))
                self.assertEqual(before, right)

    def test_results_are_plain_values(self):
        def check(value):
            self.assertIn(type(value), (tuple, int, bool, str, type(None)))
            if type(value) is tuple:
                for part in value:
                    check(part)

        for function, kinds in functions():
            with self.subTest(function=function.__name__):
                check(function(*[kind[1] for kind in kinds.values()]))


class Classes(unittest.TestCase):
    def test_methods_stand_in_their_own_class(self):
        told = {workshops.Workshop: {"put": ["name", "line"], "drop": ["name"], "wish": ["wish"], "lift": ["index"],
                                     "named": ["name"], "undo": [], "trial": [], "tried": ["action"]},
                consoles.Console: {"say": ["text"]}}
        for kind, methods in told.items():
            for name, parameters in methods.items():
                with self.subTest(kind=kind.__name__, name=name):
                    self.assertIn(name, vars(kind))
                    self.assertEqual(["self"] + parameters, list(inspect.signature(vars(kind)[name]).parameters))
        for name in ("names", "wishes"):
            self.assertIs(property, type(vars(workshops.Workshop)[name]))
        for name in ("__len__", "__contains__", "__bool__", "__eq__"):
            self.assertIn(name, vars(workshops.Workshop))

    def test_each_is_made_as_told_and_stands_in_its_own_file(self):
        self.assertEqual([], list(inspect.signature(workshops.Workshop).parameters))
        self.assertEqual(["shop"], list(inspect.signature(consoles.Console).parameters))
        self.assertEqual("shaftshakes.workshops", workshops.Workshop.__module__)
        self.assertEqual("shaftshakes.consoles", consoles.Console.__module__)


class WrongArguments(unittest.TestCase):
    def check(self, function, arguments, error, given):
        kind = getattr(errors, error)
        calls = (lambda: function(*arguments.values()), lambda: function(**arguments))
        for call in calls:
            with self.assertRaises(errors.ShaftError) as caught:
                call()
            self.assertIs(kind, type(caught.exception))
            if error == "InvalidReadings":
                self.assertEqual(first_wrong_reading(given), caught.exception.index)
            elif error == "InvalidStock":
                self.assertEqual(first_wrong_swallower(given), caught.exception.index)
            else:
                self.assertIs(given, caught.exception.given)

    def test_each_wrong_by_itself(self):
        for function, kinds in functions():
            right = {name: kind[1] for name, kind in kinds.items()}
            for name, kind in kinds.items():
                for place, wrong in enumerate(wrong_values(kind)):
                    with self.subTest(function=function.__name__, parameter=name, place=place):
                        self.check(function, {**right, name: wrong}, kind[0], wrong)

    def test_several_wrong_at_once(self):
        for function, kinds in functions():
            right = {name: kind[1] for name, kind in kinds.items()}
            for size in range(2, len(kinds) + 1):
                for names in itertools.combinations([name for name in kinds if kinds[name][0]], size):
                    for wrong in (None, [], "no", Odd()):
                        if wrong is None and kinds[names[0]] is BOUND_KIND:
                            continue
                        with self.subTest(function=function.__name__, parameters=names):
                            arguments = {**right, **{name: wrong for name in names}}
                            self.check(function, arguments, kinds[names[0]][0], wrong)

    def test_different_wrong_values_tell_which_was_checked_first(self):
        for function, kinds in functions():
            if BOUND_KIND in kinds.values():
                continue
            wrong = {name: [name] for name in kinds}
            names = list(kinds)
            right = {name: kind[1] for name, kind in kinds.items()}
            for first in range(len(names)):
                if kinds[names[first]][0] is None:
                    continue
                arguments = {**wrong, **{name: right[name] for name in names[:first]}}
                self.check(function, arguments, kinds[names[first]][0], wrong[names[first]])

    def test_wrong_arguments_stay_as_they_are(self):
        for function, kinds in functions():
            for name, kind in kinds.items():
                if kind[0] is None:
                    continue
                wrong = [[-2, 0, 1], {"a": [1]}]
                before = copy.deepcopy(wrong)
                with self.assertRaises(getattr(errors, kind[0])):
                    function(**{**{each: told[1] for each, told in kinds.items()}, name: wrong})
                self.assertEqual(before, wrong)

    def test_asked_whatever_it_is(self):
        told = {"is_polynomial": POLYNOMIAL_KIND, "is_point": POINT_KIND, "is_lot": LOT_KIND, "is_line": LINE_KIND,
                "is_box": BOX_KIND, "is_machine": MACHINE_KIND, "is_engine": ENGINE_KIND,
                "is_knot": ("InvalidPoint", KNOT, NO_POINTS + [FRACTION, (0, 1), (5, 1)])}
        for module, names in ASKED.items():
            for name in names:
                function = getattr(module, name)
                self.assertIs(True, function(told[name][1]))
                self.assertIs(True, function(value=told[name][1]))
                for place, wrong in enumerate(wrong_values(told[name])):
                    with self.subTest(function=name, place=place):
                        self.assertIs(False, function(wrong))


if __name__ == "__main__":
    unittest.main()
