"""The examples of the document that speak of these modules, as they stand there."""

import unittest

STAGE_ONE = """
>>> from shaftshakes.points import compare_points, roots_of, sign_at
>>> from shaftshakes.polynomials import common_divisor, count_roots, plain_polynomial, times_of, value_at
>>> [value_at((2, -4, -1, 2), (1, 2)), plain_polynomial((2, -4, 2)), common_divisor((-1, 0, 1), (2, -4, 2)), times_of((1, -2, 1), (1, 1)), count_roots((2, -4, -1, 2), (0, 1), (2, 1))]
[(0, 1), (-1, 1), (-1, 1), 2, 2]
>>> [roots_of((2, -4, -1, 2)), sign_at((-1, 1), ((-2, 0, 1), 1)), compare_points(((-2, 0, 1), 1), ((6, 0, -5, 0, 1), 2))]
[(((-2, 0, 1), 0), (1, 2), ((-2, 0, 1), 1)), 1, 0]
"""

STAGE_TWO = """
>>> from shaftshakes.changes import change_signs, held_parts, with_disc, with_shaft
>>> from shaftshakes.lines import compare_pace, compare_swings, is_line, paces_of, run_of, slower_count
>>> from shaftshakes.shapes import compare_turns, rest_places, rest_share, resting_discs, signs_of, untwisted_shafts
>>> one, none = (1, 1), (0, 1)
>>> two, three = ((one, one), (none, one, none)), ((one, one, one), (none, one, one, none))
>>> held = ((one, one), (one, one, none))
>>> [run_of(two), run_of(three), run_of(held)]
[((1,), (1, -1), (0, -2, 1)), ((1,), (1, -1), (1, -3, 1), (0, -3, 4, -1)), ((1,), (2, -1), (1, -3, 1))]
>>> [paces_of(two), paces_of(three), paces_of(held), is_line(((one,), (none,)))]
[((0, 1), (2, 1)), ((0, 1), (1, 1), (3, 1)), (((1, -3, 1), 0), ((1, -3, 1), 1)), False]
>>> [slower_count(three, pace) for pace in ((0, 1), (1, 2), (1, 1), (2, 1), (3, 1), (4, 1))]
[0, 1, 1, 2, 2, 3]
>>> [compare_pace(held, 0, (1, 2)), compare_pace(three, 1, (1, 1)), compare_swings(held, 1, three, 2), compare_swings(two, 1, held, 0)]
[-1, 0, -1, 1]
>>> [signs_of(three, 1), signs_of(three, 2), resting_discs(three, 1), untwisted_shafts(three, 0), untwisted_shafts(three, 2), rest_places(three, 1), rest_places(three, 2)]
[(1, 0, -1), (1, -1, 1), (1,), (1, 2), (), (('disc', 1),), (('shaft', 1), ('shaft', 2))]
>>> [rest_share(three, 2, 1, 3), rest_share(three, 2, 1, 10), rest_share(three, 2, 2, 3), compare_turns(three, 2, 0, 1), compare_turns(three, 2, 0, 2)]
[(1, True), (3, False), (2, True), -1, 0]
>>> heavy = with_disc(three, 1, (2, 1))
>>> [heavy, change_signs(heavy, three), held_parts(three, 1), held_parts(two, 0), change_signs(with_shaft(two, 0, one), two)]
[(((1, 1), (2, 1), (1, 1)), ((0, 1), (1, 1), (1, 1), (0, 1))), (0, 0, -1), ((((1, 1),), ((0, 1), (1, 1))), (((1, 1),), ((1, 1), (0, 1)))), ((((1, 1),), ((1, 1), (0, 1))),), (1, 1)]
"""

# Each of these goes on where one before it ends, with its names.
BOXES = STAGE_TWO + """>>> from shaftshakes.boxes import box_counts, box_range, clashing_line, clashing_orders, is_clear
>>> box = (heavy, three)
>>> [box_range(box, 2), box_counts(box, (5, 2)), is_clear(box, (1, 2), (3, 4)), is_clear(box, (5, 2), (11, 4)), clashing_line(box, (1, 2), (3, 4)), clashing_orders(box, 3, (1, 4), (1, 3))]
[((2, 1), (3, 1)), (2, 3), True, False, None, (2, 3)]
"""

ANSWERS = """
>>> from shaftshakes.answers import answer_at, answer_of, answer_sign, loud_paces, louder_lot, sign_lot, still_paces
>>> from shaftshakes.amounts import amounts_slower, count_with, counts_by_amount, pace_limits, slot_polynomials, turning_amount, with_amount
>>> from shaftshakes.lots import any_pace, lot_both, lot_holds, lot_rest
>>> pair = (((1, 1), (1, 1)), ((1, 1), (1, 1), (1, 1)))
>>> [answer_of(pair, 0, 0), answer_of(pair, 0, 1), answer_at(pair, 0, 0, (0, 1)), answer_at(pair, 1, 0, (1, 1)), answer_at(pair, 0, 0, (2, 1)), answer_sign(pair, 0, 1, (5, 2))]
[((2, -1), (3, -4, 1)), ((1,), (3, -4, 1)), (2, 3), None, (0, 1), -1]
>>> [still_paces(pair, 0, 0), still_paces(pair, 0, 1), loud_paces(pair, 0, 1)]
[((2, 1),), (), ((1, 1), (3, 1))]
>>> sign_lot(pair, 0, 0, 1)
(((0, 1), True, (1, 1), False), ((2, 1), False, (3, 1), False))
>>> louder_lot(pair, 0, 1, (1, 1))
((((2, -4, 1), 0), False, (2, 1), False), ((2, 1), False, ((2, -4, 1), 1), False))
>>> quiet = lot_rest(louder_lot(pair, 0, 1, (1, 1)))
>>> [lot_holds(quiet, (1, 2)), lot_holds(quiet, (2, 1)), lot_holds(quiet, (3, 1)), lot_holds(quiet, (100, 1)), lot_both(quiet, sign_lot(pair, 0, 1, -1))]
[True, True, False, True, (((2, 1), True, (2, 1), True),)]
>>> shaft, load = ("shaft", 1), ("disc", 0)
>>> [slot_polynomials(pair, shaft), slot_polynomials(pair, load), with_amount(pair, load, (5, 1)), count_with(pair, load, (5, 1), (1, 1))]
[((1, -2, 1), (2, -2)), ((3, -2), (0, -2, 1)), (((5, 1), (1, 1)), ((1, 1), (1, 1), (1, 1))), 1]
>>> [turning_amount(pair, shaft, (2, 1)), turning_amount(pair, shaft, (1, 1)), turning_amount(pair, load, (3, 1)), turning_amount(pair, load, (2, 1))]
[(1, 2), None, (1, 1), None]
>>> counts_by_amount(pair, shaft, (2, 1))
((((0, 1), False, (1, 2), False), 2), (((1, 2), True, None, False), 1))
>>> [pace_limits(pair, shaft), pace_limits(pair, load), amounts_slower(pair, load, 0, (1, 1)), amounts_slower(pair, load, 1, (2, 1))]
[(((1, 1), (1, 1)), ((1, 1), None)), (((0, 1), (3, 2)), ((2, 1), None)), ((1, 1), False, None, False), None]
"""

READINGS = ANSWERS + """>>> from shaftshakes.readings import agrees, amounts_left, parting_pace, slots_left
>>> [agrees(pair, (((1, 1), 0), ((4, 1), 2))), agrees(pair, (((1, 1), 1),)), amounts_left(pair, load, (((1, 1), 1),)), amounts_left(pair, shaft, (((1, 1), 1),)), parting_pace(pair, pair)]
[True, False, ((1, 1), False, None, False), None, None]
>>> slots_left(pair, (((1, 1), 1),))
((('disc', 0), ((1, 1), False, None, False)), (('disc', 1), ((1, 1), False, None, False)), (('shaft', 0), ((0, 1), False, (1, 1), False)), (('shaft', 2), ((0, 1), False, (1, 1), False)))
"""

PAPERS = ANSWERS + """>>> from shaftshakes.papers import is_at_least, is_at_most, quotient_of, shapes_of, twist_product
>>> [twist_product(pair, (2, 1), (1, 0), (0, 1)), twist_product(pair, (2, 1), (1, 1), (1, 1)), twist_product(pair, (2, 1), (1, 1), (1, -1)), twist_product(pair, (2, 1), (1, -1), (1, -1)), quotient_of(pair, (1, 1)), quotient_of(pair, (1, 0))]
[(-1, 1), (-2, 1), (0, 1), (2, 1), (1, 1), (2, 1)]
>>> [is_at_least(pair, (2, 1), 1, ((1, 1),)), is_at_least(pair, (2, 1), 1, ((1, 0),)), is_at_least(pair, (3, 1), 2, ((1, 1), (1, -1))), is_at_least(pair, (2, 1), 0, ())]
[True, False, False, True]
>>> [is_at_most(pair, (2, 1), 1, ((1, -1),)), is_at_most(pair, (3, 1), 1, ((1, -1),)), is_at_most(pair, (2, 1), 1, ((1, 1),)), is_at_most(pair, (9, 1), 2, ())]
[True, True, False, True]
>>> is_at_least(pair, (2, 1), 1, tuple([shape for shape in shapes_of(pair, (2, 1)) if twist_product(pair, (2, 1), shape, shape)[0] < 0]))
True
"""

MACHINES = """
>>> from shaftshakes.backs import greatest_stay, line_of_answer, line_of_paces, rewalled
>>> from shaftshakes.machines import are_alike, hidden_end, hidden_paces, line_alike, machine_end, machine_of, machine_paces, reroot_order, rerooted, root_answer, slower_in, ungeared
>>> one, none, four = (1, 1), (0, 1), (4, 1)
>>> [line_of_answer((1, -1), (0, -2, 1), none), line_of_answer((-1,), (-4, 1), one), line_of_answer((-1,), (-4, 1), (5, 1)), line_of_answer((1,), (-4, 1), none), greatest_stay((-1,), (-4, 1)), greatest_stay((1, -1), (0, -2, 1))]
[(((1, 1), (1, 1)), ((0, 1), (1, 1), (0, 1))), (((1, 1),), ((1, 1), (3, 1))), None, None, (4, 1), (0, 1)]
>>> [rewalled(((one, one), (one, one, none)), none), rewalled(((one, one), (one, one, none)), (2, 1)), line_of_paces((0, -3, 4, -1), (1, -3, 1)), line_of_paces((0, -2, 1), (3, -1))]
[(((1, 1), (4, 1)), ((0, 1), (2, 1), (2, 1))), None, (((1, 1), (1, 1), (1, 1)), ((0, 1), (1, 1), (1, 1), (0, 1))), None]
>>> twig = (one, none, 0, one, one)
>>> star, geared = ((one, none), twig, twig, twig), ((one, none), (one, none, 0, one, (2, 1)))
>>> [machine_end(star), machine_paces(star), slower_in(star, (2, 1)), root_answer(star), hidden_end(star), hidden_paces(star), line_alike(star)]
[(0, -4, 9, -6, 1), (((0, 1), 1), ((1, 1), 2), ((4, 1), 1)), 3, ((1, -1), (0, -4, 1)), (1, -2, 1), (((1, 1), 2),), (((1, 1), (3, 1)), ((0, 1), (3, 1), (0, 1)))]
>>> [ungeared(geared), machine_end(geared), rerooted(geared, 1), rerooted(star, 1), reroot_order(star, 2), are_alike(star, machine_of(line_alike(star))), are_alike(star, geared)]
[(((1, 1), (0, 1)), ((4, 1), (0, 1), 0, (4, 1), (1, 1))), (0, -5, 1), (((1, 1), (0, 1)), ((1, 1), (0, 1), 0, (4, 1), (1, 2))), (((1, 1), (0, 1)), ((1, 1), (0, 1), 0, (1, 1), (1, 1)), ((1, 1), (0, 1), 1, (1, 1), (1, 1)), ((1, 1), (0, 1), 1, (1, 1), (1, 1))), (2, 0, 1, 3), True, False]
"""


def played(session):
    """The pairs of what a session's rows give and what they are told to give."""
    names = {}
    pairs = []
    rows = session.strip().splitlines()
    for place, row in enumerate(rows):
        code = row.removeprefix(">>> ")
        if code == row:
            continue
        told = place + 1 < len(rows) and not rows[place + 1].startswith(">>> ")
        if told:
            pairs.append((eval(code, names), eval(rows[place + 1])))
        else:
            exec(code, names)
    return pairs


class Document(unittest.TestCase):
    def check(self, session, many):
        pairs = played(session)
        self.assertEqual(many, len(pairs))
        for found, told in pairs:
            self.assertEqual(repr(told), repr(found))

    def test_polynomials_and_points(self):
        self.check(STAGE_ONE, 2)

    def test_lines_shapes_and_changes(self):
        self.check(STAGE_TWO, 7)

    def test_boxes(self):
        self.check(BOXES, 8)

    def test_answers_lots_and_amounts(self):
        self.check(ANSWERS, 9)

    def test_readings(self):
        self.check(READINGS, 11)

    def test_papers(self):
        self.check(PAPERS, 13)

    def test_backs_and_machines(self):
        self.check(MACHINES, 4)


if __name__ == "__main__":
    unittest.main()
