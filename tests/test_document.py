"""The examples of the document that speak of these modules, as they stand there."""

import unittest

STAGE_ONE = """
>>> from shaftshakes.points import compare_points, roots_of, sign_at
>>> from shaftshakes.polynomials import common_divisor, count_roots, plain_polynomial, times_of, value_at
>>> [value_at((2, -4, -1, 2), (1, 2)), plain_polynomial((2, -4, 2)), common_divisor((-1, 0, 1), (2, -4, 2)), times_of((1, -2, 1), (1, 1)), count_roots((2, -4, -1, 2), (0, 1), (2, 1))]
[(0, 1), (-1, 1), (-1, 1), 2, 2]
>>> [roots_of((2, -4, -1, 2)), sign_at((-1, 1), ((-2, 0, 1), 1)), compare_points(((-2, 0, 1), 1), ((6, 0, -5, 0, 1), 2))]
[(((-2, 0, 1), 0), (1, 2), ((-2, 0, 1), 1)), 1, 0]
"""

STAGE_TWO = """
>>> from shaftshakes.changes import change_signs, held_parts, with_disc, with_shaft
>>> from shaftshakes.lines import compare_pace, compare_swings, is_line, paces_of, run_of, slower_count
>>> from shaftshakes.shapes import compare_turns, rest_places, rest_share, resting_discs, signs_of, untwisted_shafts
>>> one, none = (1, 1), (0, 1)
>>> two, three = ((one, one), (none, one, none)), ((one, one, one), (none, one, one, none))
>>> held = ((one, one), (one, one, none))
>>> [run_of(two), run_of(three), run_of(held)]
[((1,), (1, -1), (0, -2, 1)), ((1,), (1, -1), (1, -3, 1), (0, -3, 4, -1)), ((1,), (2, -1), (1, -3, 1))]
>>> [paces_of(two), paces_of(three), paces_of(held), is_line(((one,), (none,)))]
[((0, 1), (2, 1)), ((0, 1), (1, 1), (3, 1)), (((1, -3, 1), 0), ((1, -3, 1), 1)), False]
>>> [slower_count(three, pace) for pace in ((0, 1), (1, 2), (1, 1), (2, 1), (3, 1), (4, 1))]
[0, 1, 1, 2, 2, 3]
>>> [compare_pace(held, 0, (1, 2)), compare_pace(three, 1, (1, 1)), compare_swings(held, 1, three, 2), compare_swings(two, 1, held, 0)]
[-1, 0, -1, 1]
>>> [signs_of(three, 1), signs_of(three, 2), resting_discs(three, 1), untwisted_shafts(three, 0), untwisted_shafts(three, 2), rest_places(three, 1), rest_places(three, 2)]
[(1, 0, -1), (1, -1, 1), (1,), (1, 2), (), (('disc', 1),), (('shaft', 1), ('shaft', 2))]
>>> [rest_share(three, 2, 1, 3), rest_share(three, 2, 1, 10), rest_share(three, 2, 2, 3), compare_turns(three, 2, 0, 1), compare_turns(three, 2, 0, 2)]
[(1, True), (3, False), (2, True), -1, 0]
>>> heavy = with_disc(three, 1, (2, 1))
>>> [heavy, change_signs(heavy, three), held_parts(three, 1), held_parts(two, 0), change_signs(with_shaft(two, 0, one), two)]
[(((1, 1), (2, 1), (1, 1)), ((0, 1), (1, 1), (1, 1), (0, 1))), (0, 0, -1), ((((1, 1),), ((0, 1), (1, 1))), (((1, 1),), ((1, 1), (0, 1)))), ((((1, 1),), ((1, 1), (0, 1))),), (1, 1)]
"""

# The document takes these two lots from the answers of a line; here they are written out.
LOTS = """
>>> from shaftshakes.lots import any_pace, lot_both, lot_holds, lot_rest
>>> louder = ((((2, -4, 1), 0), False, (2, 1), False), ((2, 1), False, ((2, -4, 1), 1), False))
>>> below = (((1, 1), False, (3, 1), False),)
>>> quiet = lot_rest(louder)
>>> [lot_holds(quiet, (1, 2)), lot_holds(quiet, (2, 1)), lot_holds(quiet, (3, 1)), lot_holds(quiet, (100, 1))]
[True, True, False, True]
>>> lot_both(quiet, below)
(((2, 1), True, (2, 1), True),)
>>> [any_pace((((2, 1), True, (2, 1), True),)), any_pace(())]
[(2, 1), None]
"""


def played(session):
    """The pairs of what a session's rows give and what they are told to give."""
    names = {}
    pairs = []
    rows = session.strip().splitlines()
    for place, row in enumerate(rows):
        code = row.removeprefix(">>> ")
        if code == row:
            continue
        told = place + 1 < len(rows) and not rows[place + 1].startswith(">>> ")
        if told:
            pairs.append((eval(code, names), eval(rows[place + 1])))
        else:
            exec(code, names)
    return pairs


class Document(unittest.TestCase):
    def check(self, session, many):
        pairs = played(session)
        self.assertEqual(many, len(pairs))
        for found, told in pairs:
            self.assertEqual(told, found)

    def test_polynomials_and_points(self):
        self.check(STAGE_ONE, 2)

    def test_lots(self):
        self.check(LOTS, 3)

    def test_lines_shapes_and_changes(self):
        self.check(STAGE_TWO, 7)


if __name__ == "__main__":
    unittest.main()
