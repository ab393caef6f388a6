"""The examples of the document that speak of these modules, as they stand there."""

import unittest

from shaftshakes.errors import ShaftError

STAGE_ONE = """
>>> from shaftshakes.points import compare_points, roots_of, sign_at
>>> from shaftshakes.polynomials import common_divisor, count_roots, plain_polynomial, times_of, value_at
>>> [value_at((2, -4, -1, 2), (1, 2)), plain_polynomial((2, -4, 2)), common_divisor((-1, 0, 1), (2, -4, 2)), times_of((1, -2, 1), (1, 1)), count_roots((2, -4, -1, 2), (0, 1), (2, 1))]
[(0, 1), (-1, 1), (-1, 1), 2, 2]
>>> [roots_of((2, -4, -1, 2)), sign_at((-1, 1), ((-2, 0, 1), 1)), compare_points(((-2, 0, 1), 1), ((6, 0, -5, 0, 1), 2))]
[(((-2, 0, 1), 0), (1, 2), ((-2, 0, 1), 1)), 1, 0]
"""

STAGE_TWO = """
>>> from shaftshakes.changes import change_signs, held_parts, with_disc, with_shaft
>>> from shaftshakes.lines import compare_pace, compare_swings, is_line, paces_of, run_of, slower_count
>>> from shaftshakes.shapes import compare_turns, rest_places, rest_share, resting_discs, signs_of, untwisted_shafts
>>> one, none = (1, 1), (0, 1)
>>> two, three = ((one, one), (none, one, none)), ((one, one, one), (none, one, one, none))
>>> held = ((one, one), (one, one, none))
>>> [run_of(two), run_of(three), run_of(held)]
[((1,), (1, -1), (0, -2, 1)), ((1,), (1, -1), (1, -3, 1), (0, -3, 4, -1)), ((1,), (2, -1), (1, -3, 1))]
>>> [paces_of(two), paces_of(three), paces_of(held), is_line(((one,), (none,)))]
[((0, 1), (2, 1)), ((0, 1), (1, 1), (3, 1)), (((1, -3, 1), 0), ((1, -3, 1), 1)), False]
>>> [slower_count(three, pace) for pace in ((0, 1), (1, 2), (1, 1), (2, 1), (3, 1), (4, 1))]
[0, 1, 1, 2, 2, 3]
>>> [compare_pace(held, 0, (1, 2)), compare_pace(three, 1, (1, 1)), compare_swings(held, 1, three, 2), compare_swings(two, 1, held, 0)]
[-1, 0, -1, 1]
>>> [signs_of(three, 1), signs_of(three, 2), resting_discs(three, 1), untwisted_shafts(three, 0), untwisted_shafts(three, 2), rest_places(three, 1), rest_places(three, 2)]
[(1, 0, -1), (1, -1, 1), (1,), (1, 2), (), (('disc', 1),), (('shaft', 1), ('shaft', 2))]
>>> [rest_share(three, 2, 1, 3), rest_share(three, 2, 1, 10), rest_share(three, 2, 2, 3), compare_turns(three, 2, 0, 1), compare_turns(three, 2, 0, 2)]
[(1, True), (3, False), (2, True), -1, 0]
>>> heavy = with_disc(three, 1, (2, 1))
>>> [heavy, change_signs(heavy, three), held_parts(three, 1), held_parts(two, 0), change_signs(with_shaft(two, 0, one), two)]
[(((1, 1), (2, 1), (1, 1)), ((0, 1), (1, 1), (1, 1), (0, 1))), (0, 0, -1), ((((1, 1),), ((0, 1), (1, 1))), (((1, 1),), ((1, 1), (0, 1)))), ((((1, 1),), ((1, 1), (0, 1))),), (1, 1)]
"""

# Each of these goes on where one before it ends, with its names.
BOXES = STAGE_TWO + """>>> from shaftshakes.boxes import box_counts, box_range, clashing_line, clashing_orders, is_clear
>>> box = (heavy, three)
>>> [box_range(box, 2), box_counts(box, (5, 2)), is_clear(box, (1, 2), (3, 4)), is_clear(box, (5, 2), (11, 4)), clashing_line(box, (1, 2), (3, 4)), clashing_orders(box, 3, (1, 4), (1, 3))]
[((2, 1), (3, 1)), (2, 3), True, False, None, (2, 3)]
"""

ANSWERS = """
>>> from shaftshakes.answers import answer_at, answer_of, answer_sign, loud_paces, louder_lot, sign_lot, still_paces
>>> from shaftshakes.amounts import amounts_slower, count_with, counts_by_amount, pace_limits, slot_polynomials, turning_amount, with_amount
>>> from shaftshakes.lots import any_pace, lot_both, lot_holds, lot_rest
>>> pair = (((1, 1), (1, 1)), ((1, 1), (1, 1), (1, 1)))
>>> [answer_of(pair, 0, 0), answer_of(pair, 0, 1), answer_at(pair, 0, 0, (0, 1)), answer_at(pair, 1, 0, (1, 1)), answer_at(pair, 0, 0, (2, 1)), answer_sign(pair, 0, 1, (5, 2))]
[((2, -1), (3, -4, 1)), ((1,), (3, -4, 1)), (2, 3), None, (0, 1), -1]
>>> [still_paces(pair, 0, 0), still_paces(pair, 0, 1), loud_paces(pair, 0, 1)]
[((2, 1),), (), ((1, 1), (3, 1))]
>>> sign_lot(pair, 0, 0, 1)
(((0, 1), True, (1, 1), False), ((2, 1), False, (3, 1), False))
>>> louder_lot(pair, 0, 1, (1, 1))
((((2, -4, 1), 0), False, (2, 1), False), ((2, 1), False, ((2, -4, 1), 1), False))
>>> quiet = lot_rest(louder_lot(pair, 0, 1, (1, 1)))
>>> [lot_holds(quiet, (1, 2)), lot_holds(quiet, (2, 1)), lot_holds(quiet, (3, 1)), lot_holds(quiet, (100, 1)), lot_both(quiet, sign_lot(pair, 0, 1, -1))]
[True, True, False, True, (((2, 1), True, (2, 1), True),)]
>>> shaft, load = ("shaft", 1), ("disc", 0)
>>> [slot_polynomials(pair, shaft), slot_polynomials(pair, load), with_amount(pair, load, (5, 1)), count_with(pair, load, (5, 1), (1, 1))]
[((1, -2, 1), (2, -2)), ((3, -2), (0, -2, 1)), (((5, 1), (1, 1)), ((1, 1), (1, 1), (1, 1))), 1]
>>> [turning_amount(pair, shaft, (2, 1)), turning_amount(pair, shaft, (1, 1)), turning_amount(pair, load, (3, 1)), turning_amount(pair, load, (2, 1))]
[(1, 2), None, (1, 1), None]
>>> counts_by_amount(pair, shaft, (2, 1))
((((0, 1), False, (1, 2), False), 2), (((1, 2), True, None, False), 1))
>>> [pace_limits(pair, shaft), pace_limits(pair, load), amounts_slower(pair, load, 0, (1, 1)), amounts_slower(pair, load, 1, (2, 1))]
[(((1, 1), (1, 1)), ((1, 1), None)), (((0, 1), (3, 2)), ((2, 1), None)), ((1, 1), False, None, False), None]
"""

READINGS = ANSWERS + """>>> from shaftshakes.readings import agrees, amounts_left, parting_pace, slots_left
>>> [agrees(pair, (((1, 1), 0), ((4, 1), 2))), agrees(pair, (((1, 1), 1),)), amounts_left(pair, load, (((1, 1), 1),)), amounts_left(pair, shaft, (((1, 1), 1),)), parting_pace(pair, pair)]
[True, False, ((1, 1), False, None, False), None, None]
>>> slots_left(pair, (((1, 1), 1),))
((('disc', 0), ((1, 1), False, None, False)), (('disc', 1), ((1, 1), False, None, False)), (('shaft', 0), ((0, 1), False, (1, 1), False)), (('shaft', 2), ((0, 1), False, (1, 1), False)))
"""

PAPERS = ANSWERS + """>>> from shaftshakes.papers import is_at_least, is_at_most, quotient_of, shapes_of, twist_product
>>> [twist_product(pair, (2, 1), (1, 0), (0, 1)), twist_product(pair, (2, 1), (1, 1), (1, 1)), twist_product(pair, (2, 1), (1, 1), (1, -1)), twist_product(pair, (2, 1), (1, -1), (1, -1)), quotient_of(pair, (1, 1)), quotient_of(pair, (1, 0))]
[(-1, 1), (-2, 1), (0, 1), (2, 1), (1, 1), (2, 1)]
>>> [is_at_least(pair, (2, 1), 1, ((1, 1),)), is_at_least(pair, (2, 1), 1, ((1, 0),)), is_at_least(pair, (3, 1), 2, ((1, 1), (1, -1))), is_at_least(pair, (2, 1), 0, ())]
[True, False, False, True]
>>> [is_at_most(pair, (2, 1), 1, ((1, -1),)), is_at_most(pair, (3, 1), 1, ((1, -1),)), is_at_most(pair, (2, 1), 1, ((1, 1),)), is_at_most(pair, (9, 1), 2, ())]
[True, True, False, True]
>>> is_at_least(pair, (2, 1), 1, tuple([shape for shape in shapes_of(pair, (2, 1)) if twist_product(pair, (2, 1), shape, shape)[0] < 0]))
True
"""

MACHINES = """
>>> from shaftshakes.backs import greatest_stay, line_of_answer, line_of_paces, rewalled
>>> from shaftshakes.machines import are_alike, hidden_end, hidden_paces, line_alike, machine_end, machine_of, machine_paces, reroot_order, rerooted, root_answer, slower_in, ungeared
>>> one, none, four = (1, 1), (0, 1), (4, 1)
>>> [line_of_answer((1, -1), (0, -2, 1), none), line_of_answer((-1,), (-4, 1), one), line_of_answer((-1,), (-4, 1), (5, 1)), line_of_answer((1,), (-4, 1), none), greatest_stay((-1,), (-4, 1)), greatest_stay((1, -1), (0, -2, 1))]
[(((1, 1), (1, 1)), ((0, 1), (1, 1), (0, 1))), (((1, 1),), ((1, 1), (3, 1))), None, None, (4, 1), (0, 1)]
>>> [rewalled(((one, one), (one, one, none)), none), rewalled(((one, one), (one, one, none)), (2, 1)), line_of_paces((0, -3, 4, -1), (1, -3, 1)), line_of_paces((0, -2, 1), (3, -1))]
[(((1, 1), (4, 1)), ((0, 1), (2, 1), (2, 1))), None, (((1, 1), (1, 1), (1, 1)), ((0, 1), (1, 1), (1, 1), (0, 1))), None]
>>> twig = (one, none, 0, one, one)
>>> star, geared = ((one, none), twig, twig, twig), ((one, none), (one, none, 0, one, (2, 1)))
>>> [machine_end(star), machine_paces(star), slower_in(star, (2, 1)), root_answer(star), hidden_end(star), hidden_paces(star), line_alike(star)]
[(0, -4, 9, -6, 1), (((0, 1), 1), ((1, 1), 2), ((4, 1), 1)), 3, ((1, -1), (0, -4, 1)), (1, -2, 1), (((1, 1), 2),), (((1, 1), (3, 1)), ((0, 1), (3, 1), (0, 1)))]
>>> [ungeared(geared), machine_end(geared), rerooted(geared, 1), rerooted(star, 1), reroot_order(star, 2), are_alike(star, machine_of(line_alike(star))), are_alike(star, geared)]
[(((1, 1), (0, 1)), ((4, 1), (0, 1), 0, (4, 1), (1, 1))), (0, -5, 1), (((1, 1), (0, 1)), ((1, 1), (0, 1), 0, (4, 1), (1, 2))), (((1, 1), (0, 1)), ((1, 1), (0, 1), 0, (1, 1), (1, 1)), ((1, 1), (0, 1), 1, (1, 1), (1, 1)), ((1, 1), (0, 1), 1, (1, 1), (1, 1))), (2, 0, 1, 3), True, False]
"""

SWALLOWERS = MACHINES + """>>> from shaftshakes.swallowers import is_quiet, quiet_from, quiet_ones, still_paces_at, tuned_inertia, with_swallower
>>> lone = ((one, four),)
>>> [quiet_from(lone, 0, four, (3, 1), (5, 1)), tuned_inertia(lone, 0, four, (3, 1)), tuned_inertia(lone, 0, four, four), with_swallower(lone, 0, (1, 12), (1, 3)), is_quiet(with_swallower(lone, 0, (1, 6), (2, 3)), (3, 1), (5, 1)), is_quiet(with_swallower(lone, 0, (1, 12), (1, 3)), (3, 1), (5, 1))]
[(1, 12), (1, 12), None, (((1, 1), (4, 1)), ((1, 12), (0, 1), 0, (1, 3), (1, 1))), True, False]
>>> [still_paces_at(star, 0), still_paces_at(lone, 0), quiet_from(star, 0, (1, 1), (1, 2), (2, 1)), quiet_from(star, 0, four, (3, 1), (5, 1)), quiet_ones(lone, ((0, (1, 6), (2, 3)), (0, (1, 20), (1, 5))), (3, 1), (5, 1))]
[((1, 1),), (), None, (1, 8), (0,)]
"""

# What one and none are, the part on machines tells.
ORDERS = """
>>> one, none = (1, 1), (0, 1)
>>> from shaftshakes.orders import compare_stirs, quiet_arrangements, silent_orders, stir_parts, stirs
>>> from shaftshakes.speeds import clear_speeds, compare_speed, critical_speeds, is_clear_speed, speed_of
>>> two = ((one, one), (none, one, none))
>>> boxer = (two, ((0, 0, one), (1, 6, one)))
>>> [stir_parts(boxer, 1), stir_parts((two, ((0, 0, one), (0, 1, one))), 1), stirs(boxer, 1, 0), stirs(boxer, 1, 1), silent_orders(boxer, 0), silent_orders(boxer, 1), compare_stirs(boxer, 1, 2, 1), compare_stirs(boxer, 1, -1, 1)]
[((0, 1), (), (), ()), ((2,), (1,), (1,), ()), False, True, (1, 3, 5, 7, 9, 11), (0, 2, 4, 6, 8, 10), 1, 0]
>>> four_cranks = (two, ((0, 0, one), (0, 3, one), (0, 6, one), (0, 9, one)))
>>> [quiet_arrangements(boxer, 1, 0), len(quiet_arrangements(four_cranks, 1, 1)), quiet_arrangements(four_cranks, 4, 1)]
[((0, 6),), 6, ()]
>>> [critical_speeds(boxer, 3), speed_of(boxer, 3, 1), compare_speed(boxer, 3, 1, (1, 4)), is_clear_speed(boxer, 3, (1, 4), one), is_clear_speed(boxer, 3, (1, 5), one), clear_speeds(boxer, 1)]
[((3, 1), (1, 1)), (2, 9), -1, True, False, (((0, 1), True, (2, 1), False), ((2, 1), False, None, False))]
"""

CONSOLES = STAGE_TWO + """>>> from shaftshakes.consoles import Console
>>> from shaftshakes.workshops import Workshop
>>> shop = Workshop()
>>> console = Console(shop)
>>> [console.say("put shaft: 1/1 1/1 1/1 | 0/1 1/1 1/1 0/1"), console.say("slower shaft: 2/1"), console.say("signs shaft: 1"), console.say("signs shaft: 3"), console.say("show shaft"), console.say("names")]
['done', '2', '1 0 -1', 'none', '1/1 1/1 1/1 | 0/1 1/1 1/1 0/1', 'shaft']
>>> [shop.wish(("slower", "shaft", (2, 1), 2)), shop.wish(("rests", "shaft", 1, 1)), shop.wish(("clear", "shaft", (3, 2), (5, 2))), len(shop)]
[None, None, None, 4]
>>> shop.put("shaft", heavy)
raises Broken(index=2)
>>> [shop.named("shaft") == three, console.say("undo"), len(shop), shop.wishes]
[True, 'done', 3, (('slower', 'shaft', (2, 1), 2), ('rests', 'shaft', 1, 1))]
"""

CERTIFICATES = BOXES + """>>> pair = (((1, 1), (1, 1)), ((1, 1), (1, 1), (1, 1)))
>>> twig = (one, none, 0, one, one)
>>> star, geared = ((one, none), twig, twig, twig), ((one, none), (one, none, 0, one, (2, 1)))
>>> from shaftshakes.certificates import certify_alike, certify_box, certify_least, certify_rest
>>> from shaftshakes.checker import accepts
>>> [accepts(("at least", pair, (2, 1), 1), ((1, 1),)), accepts(("at most", pair, (2, 1), 1), ((1, -1),)), accepts(("rests", three, 1, 1), ()), accepts(("moves", three, 1, 1), ()), accepts(("clashes", box, (5, 2), (11, 4)), with_disc(three, 1, (5, 4))), accepts(("clashes", box, (5, 2), (11, 4)), three)]
[True, True, True, False, True, False]
>>> [certify_least(three, (2, 1))[0], certify_rest(three, 1, 0), certify_box(box, (1, 2), (3, 4)), certify_alike(star, geared)[0][0]]
[('at least', (((1, 1), (1, 1), (1, 1)), ((0, 1), (1, 1), (1, 1), (0, 1))), (2, 1), 2), (('moves', (((1, 1), (1, 1), (1, 1)), ((0, 1), (1, 1), (1, 1), (0, 1))), 1, 0), ()), (('clear', ((((1, 1), (2, 1), (1, 1)), ((0, 1), (1, 1), (1, 1), (0, 1))), (((1, 1), (1, 1), (1, 1)), ((0, 1), (1, 1), (1, 1), (0, 1)))), (1, 2), (3, 4)), ()), 'unlike']
"""


def error_of(code, names):
    """What is raised, told as the document tells it."""
    try:
        eval(code, names)
    except ShaftError as error:
        told = ", ".join(f"{name}={value!r}" for name, value in vars(error).items())
        return f"raises {type(error).__name__}({told})"
    return "raises nothing"


def played(session):
    """The pairs of what a session's rows give and what they are told to give."""
    names = {}
    pairs = []
    rows = session.strip().splitlines()
    for place, row in enumerate(rows):
        code = row.removeprefix(">>> ")
        if code == row:
            continue
        told = place + 1 < len(rows) and not rows[place + 1].startswith(">>> ")
        if told and rows[place + 1].startswith("raises "):
            pairs.append((error_of(code, names), rows[place + 1]))
        elif told:
            pairs.append((eval(code, names), eval(rows[place + 1])))
        else:
            exec(code, names)
    return pairs


class Document(unittest.TestCase):
    def check(self, session, many):
        pairs = played(session)
        self.assertEqual(many, len(pairs))
        for found, told in pairs:
            self.assertEqual(repr(told), repr(found))

    def test_polynomials_and_points(self):
        self.check(STAGE_ONE, 2)

    def test_lines_shapes_and_changes(self):
        self.check(STAGE_TWO, 7)

    def test_boxes(self):
        self.check(BOXES, 8)

    def test_answers_lots_and_amounts(self):
        self.check(ANSWERS, 9)

    def test_readings(self):
        self.check(READINGS, 11)

    def test_papers(self):
        self.check(PAPERS, 13)

    def test_backs_and_machines(self):
        self.check(MACHINES, 4)

    def test_swallowers(self):
        self.check(SWALLOWERS, 6)

    def test_orders_and_speeds(self):
        self.check(ORDERS, 3)

    def test_workshops_and_consoles(self):
        self.check(CONSOLES, 11)

    def test_checker_and_certificates(self):
        self.check(CERTIFICATES, 10)

    def test_all_as_one_session(self):
        rest = [ANSWERS, READINGS[len(ANSWERS):], PAPERS[len(ANSWERS):], SWALLOWERS, ORDERS, CONSOLES[len(STAGE_TWO):],
                CERTIFICATES[len(BOXES):]]
        self.check(STAGE_ONE + BOXES + "".join(rest), 40)


if __name__ == "__main__":
    unittest.main()
