"""Lots of paces: what is one, what is in it, and what lots make together."""

import itertools
import random
import unittest

from shaftshakes.errors import InvalidLot, InvalidPoint
from shaftshakes.lots import any_pace, are_same_lots, is_lot, lot_both, lot_either, lot_holds, lot_rest
from shaftshakes.points import compare_points, fraction_between, is_knot, is_point

NOUGHT, ONE, TWO, THREE = (0, 1), (1, 1), (2, 1), (3, 1)
ROOT_TWO, ALSO_ROOT_TWO = ((-2, 0, 1), 1), ((6, 0, -5, 0, 1), 2)
ROOT_THREE = ((6, 0, -5, 0, 1), 3)
NOTHING, ALL = (), ((NOUGHT, True, None, False),)

# Numbers in ascending order, each by all the points that tell it.
NUMBERS = [[NOUGHT], [ONE], [(7, 5)], [ROOT_TWO, ALSO_ROOT_TWO, ((-2, 0, -1, 0, 1), 1)], [(3, 2)],
           [((-3, 0, 1), 1), ROOT_THREE], [TWO], [((1, -3, 1), 1)], [THREE]]


def random_lot(chance):
    """A lot, and the places in NUMBERS, doubled, at which it begins and ends.

    An even place is the number itself, an odd one the open stretch behind it.
    """
    turns = sorted(chance.sample(range(2 * len(NUMBERS)), chance.randint(0, 7)))
    stretches = []
    for start, end in itertools.zip_longest(turns[::2], turns[1::2]):
        low = chance.choice(NUMBERS[start // 2])
        if end is None:
            stretches.append((low, start % 2 == 0, None, False))
        else:
            high = chance.choice(NUMBERS[end // 2])
            stretches.append((low, start % 2 == 0, high, end % 2 == 1))
    return tuple(stretches), turns


def samples():
    """A point for each place in NUMBERS, doubled."""
    found = []
    for place, points in enumerate(NUMBERS):
        found.append(points[-1])
        above = NUMBERS[place + 1][0] if place + 1 < len(NUMBERS) else (10 ** 40, 1)
        found.append(fraction_between(points[0], above))
    return found


def held(turns, place):
    return sum(turn <= place for turn in turns) % 2 == 1


class Kinds(unittest.TestCase):
    def test_nothing_and_all(self):
        self.assertIs(True, is_lot(NOTHING))
        self.assertIs(True, is_lot(ALL))

    def test_ends(self):
        for lot in (((ONE, True, ONE, True),), ((NOUGHT, True, NOUGHT, True),), ((ROOT_TWO, True, ROOT_TWO, True),),
                    ((ROOT_TWO, True, ALSO_ROOT_TWO, True),), ((NOUGHT, False, ONE, False),),
                    ((ONE, True, None, False),),
                    ((ROOT_TWO, False, None, False),), ((ONE, True, ROOT_TWO, True), (TWO, False, THREE, False))):
            self.assertIs(True, is_lot(lot))

    def test_one_number_is_a_stretch_only_with_true_twice(self):
        for low, high in ((ONE, ONE), (ROOT_TWO, ROOT_TWO), (ROOT_TWO, ALSO_ROOT_TWO)):
            self.assertIs(True, is_lot(((low, True, high, True),)))
            for has_low, has_high in ((True, False), (False, True), (False, False)):
                self.assertIs(False, is_lot(((low, has_low, high, has_high),)))

    def test_neighbours_leave_a_number_out_between_them(self):
        for first, second in ((ONE, ONE), (ROOT_TWO, ROOT_TWO), (ROOT_TWO, ALSO_ROOT_TWO), (ALSO_ROOT_TWO, ROOT_TWO)):
            for has_first, has_second in ((True, True), (True, False), (False, True)):
                self.assertIs(False, is_lot(((NOUGHT, True, first, has_first), (second, has_second, TWO, True))))
            self.assertIs(True, is_lot(((NOUGHT, True, first, False), (second, False, TWO, True))))
        self.assertIs(True, is_lot(((NOUGHT, True, ONE, True), (ROOT_TWO, True, TWO, True))))

    def test_neighbours_share_no_number_and_ascend(self):
        self.assertIs(False, is_lot(((NOUGHT, True, TWO, True), (ONE, True, THREE, True))))
        self.assertIs(False, is_lot(((TWO, True, THREE, True), (NOUGHT, True, ONE, True))))
        self.assertIs(False, is_lot(((ONE, True, NOUGHT, True),)))
        self.assertIs(False, is_lot(((ROOT_TWO, True, (7, 5), True),)))

    def test_only_the_last_one_has_no_end(self):
        self.assertIs(False, is_lot(((NOUGHT, True, None, False), (TWO, True, THREE, True))))
        self.assertIs(False, is_lot(((NOUGHT, True, None, False), (TWO, True, None, False))))
        self.assertIs(False, is_lot(((NOUGHT, True, None, True),)))
        self.assertIs(False, is_lot(((None, False, ONE, True),)))
        self.assertIs(True, is_lot(((NOUGHT, True, ONE, True), (TWO, True, None, False))))

    def test_no_number_below_nought(self):
        for low in ((-1, 1), (-1, 10 ** 100), ((-2, 0, 1), 0)):
            for high in (None, ONE, ROOT_TWO):
                self.assertIs(False, is_lot(((low, True, high, high is not None),)))

    def test_truth_values_are_true_and_false(self):
        for has_low, has_high in ((1, True), (True, 1), (0, True), (True, 0), (None, True), ("", True)):
            self.assertIs(False, is_lot(((NOUGHT, has_low, ONE, has_high),)))


class Holds(unittest.TestCase):
    def test_ordinary(self):
        lot = ((ONE, True, ROOT_TWO, False), (ROOT_TWO, False, TWO, True), (THREE, False, None, False))
        for point, told in ((NOUGHT, False), (ONE, True), ((7, 5), True), (ROOT_TWO, False), (ALSO_ROOT_TWO, False),
                            ((3, 2), True),
                            (ROOT_THREE, True), (TWO, True), ((5, 2), False), (THREE, False), ((4, 1), True),
                            ((10 ** 399, 1), True),
                            (((-10, 0, 1), 1), True)):
            self.assertIs(told, lot_holds(lot, point))

    def test_nothing_all_and_one_number(self):
        for point in (NOUGHT, ONE, ROOT_TWO):
            self.assertIs(False, lot_holds(NOTHING, point))
            self.assertIs(True, lot_holds(ALL, point))
        single = ((ROOT_TWO, True, ROOT_TWO, True),)
        self.assertIs(True, lot_holds(single, ALSO_ROOT_TWO))
        self.assertIs(False, lot_holds(single, (7, 5)))
        self.assertIs(False, lot_holds(single, ROOT_THREE))

    def test_points_below_nought_are_refused(self):
        for point in ((-1, 1), ((-2, 0, 1), 0), ((6, 0, -5, 0, 1), 1)):
            for lot in (NOTHING, ALL):
                with self.assertRaises(InvalidPoint) as caught:
                    lot_holds(lot, point)
                self.assertIs(point, caught.exception.given)
        self.assertRaises(InvalidLot, lot_holds, None, (-1, 1))


class Together(unittest.TestCase):
    def test_ordinary(self):
        first, second = ((NOUGHT, True, TWO, False),), ((ONE, True, THREE, True),)
        self.assertEqual(((ONE, True, TWO, False),), lot_both(first, second))
        self.assertEqual(((NOUGHT, True, THREE, True),), lot_either(first, second))
        self.assertEqual(((TWO, True, None, False),), lot_rest(first))
        self.assertEqual(((NOUGHT, True, ONE, False), (THREE, False, None, False)), lot_rest(second))

    def test_nothing_and_all(self):
        lot = ((ONE, True, ROOT_TWO, True),)
        self.assertEqual((ALL, NOTHING), (lot_rest(NOTHING), lot_rest(ALL)))
        self.assertEqual((NOTHING, lot), (lot_both(lot, NOTHING), lot_both(ALL, lot)))
        self.assertEqual((lot, ALL), (lot_either(NOTHING, lot), lot_either(lot, ALL)))
        self.assertEqual((NOTHING, NOTHING), (lot_both(NOTHING, NOTHING), lot_either(NOTHING, NOTHING)))

    def test_stretches_that_touch_become_one(self):
        low, high = ((NOUGHT, True, ROOT_TWO, False),), ((ALSO_ROOT_TWO, False, TWO, True),)
        self.assertEqual(2, len(lot_either(low, high)))
        closed = ((ALSO_ROOT_TWO, True, TWO, True),)
        self.assertEqual(((NOUGHT, True, TWO, True),), lot_either(low, closed))
        self.assertEqual(((NOUGHT, True, TWO, True),), lot_either(closed, low))
        self.assertEqual(((NOUGHT, True, TWO, True),),
                         lot_either(lot_either(low, high), ((ROOT_TWO, True, ROOT_TWO, True),)))

    def test_one_number_is_left(self):
        first, second = ((NOUGHT, True, ROOT_TWO, True),), ((ALSO_ROOT_TWO, True, TWO, True),)
        both = lot_both(first, second)
        self.assertTrue(are_same_lots(((ROOT_TWO, True, ROOT_TWO, True),), both))
        self.assertEqual(NOTHING, lot_both(first, ((ALSO_ROOT_TWO, False, TWO, True),)))

    def test_as_membership_tells(self):
        chance = random.Random(21)
        points = samples()
        for _ in range(60):
            (lot, turns), (other, other_turns) = random_lot(chance), random_lot(chance)
            results = (lot_both(lot, other), lot_either(lot, other), lot_rest(lot))
            for result in results:
                self.assertIs(True, is_lot(result))
            for place, point in chance.sample(list(enumerate(points)), 6):
                first, second = held(turns, place), held(other_turns, place)
                self.assertIs(first, lot_holds(lot, point))
                self.assertEqual([first and second, first or second, not first],
                                 [lot_holds(result, point) for result in results])
            self.assertIs(turns == other_turns, are_same_lots(lot, other))
            self.assertIs(True, are_same_lots(lot_rest(results[2]), lot))
            self.assertIs(True, are_same_lots(lot_rest(results[1]), lot_both(lot_rest(lot), lot_rest(other))))

    def test_ends_are_points_that_were_passed(self):
        chance = random.Random(22)
        for _ in range(40):
            lot, other = random_lot(chance)[0], random_lot(chance)[0]
            passed = [end for stretch in lot + other for end in stretch[::2]]
            for result in (lot_both(lot, other), lot_either(lot, other)):
                for stretch in result:
                    for end in stretch[::2]:
                        self.assertIn(end, passed)


class Same(unittest.TestCase):
    def test_told_by_other_knots(self):
        self.assertIs(True, are_same_lots(((ROOT_TWO, True, None, False),), ((ALSO_ROOT_TWO, True, None, False),)))
        self.assertIs(False, are_same_lots(((ROOT_TWO, True, None, False),), ((ALSO_ROOT_TWO, False, None, False),)))
        self.assertIs(False,
                      are_same_lots(((ROOT_TWO, True, None, False),), ((ROOT_TWO, True, (10 ** 99, 1), False),)))
        self.assertIs(False, are_same_lots(ALL, NOTHING))
        self.assertIs(True, are_same_lots(NOTHING, NOTHING))
        self.assertIs(True, are_same_lots(ALL, ALL))


class AnyPace(unittest.TestCase):
    def check(self, lot):
        found = any_pace(lot)
        self.assertTrue(is_point(found) and not is_knot(found))
        self.assertIs(True, lot_holds(lot, found))

    def test_ordinary(self):
        near = 10 ** 200
        for lot in (ALL, ((ONE, True, ONE, True),), ((ONE, False, None, False),), ((ROOT_TWO, True, None, False),),
                    ((ROOT_TWO, False, ROOT_THREE, False),), ((ROOT_TWO, True, (3, 2), False),),
                    ((ONE, False, ROOT_TWO, False),),
                    ((ROOT_TWO, False, ((-2 * near - 1, 0, near), 1), False),),
                    ((((-10 ** 99 - 1, 0, 1), 1), False, None, False),),
                    ((ROOT_TWO, True, ROOT_TWO, True), (TWO, False, THREE, False)),
                    ((NOUGHT, False, (1, 10 ** 90), False),)):
            self.check(lot)

    def test_none(self):
        for lot in (NOTHING, ((ROOT_TWO, True, ROOT_TWO, True),),
                    ((ROOT_TWO, True, ALSO_ROOT_TWO, True), (ROOT_THREE, True, ROOT_THREE, True))):
            self.assertIsNone(any_pace(lot))

    def test_there_is_one_just_if_not_all_are_single_knots(self):
        chance = random.Random(23)
        for _ in range(60):
            lot, turns = random_lot(chance)
            ends = list(itertools.zip_longest(turns[::2], turns[1::2]))
            singles = [end == start + 1 and start % 2 == 0 and is_knot(NUMBERS[start // 2][0]) for start, end in ends]
            if all(singles):
                self.assertIsNone(any_pace(lot))
            else:
                self.check(lot)


class TheNumbersOfTheseTests(unittest.TestCase):
    def test_they_ascend(self):
        for lower, upper in itertools.pairwise(NUMBERS):
            for one, other in itertools.product(lower, upper):
                self.assertEqual(-1, compare_points(one, other))


if __name__ == "__main__":
    unittest.main()
