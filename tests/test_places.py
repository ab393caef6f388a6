"""Cells and places: what the other modules trust when they compare numbers by fractions around them."""

import random
import unittest
from fractions import Fraction

import oracle
from chance import random_polynomial, sign
from shaftshakes.cells import cells_of
from shaftshakes.places import are_same_knots, compare_places, fraction_between_places, fraction_place, knot_place
from shaftshakes.places import narrow, real_places, sign_at_place
from shaftshakes.points import roots_of

ROOT_TWO, ALSO_ROOT_TWO, ROOT_THREE = ((-2, 0, 1), 1), ((6, 0, -5, 0, 1), 2), ((6, 0, -5, 0, 1), 3)


def ends(cell):
    low, high, bits = cell
    return Fraction(low, 2 ** bits), Fraction(high, 2 ** bits)


def cell_of(place):
    return ends((place.low, place.high, place.bits))


class Cells(unittest.TestCase):
    def check(self, polynomial, many):
        """Each cell has unlike signs at its ends, no two overlap, and there are as many as roots."""
        cells = [ends(cell) for cell in cells_of(polynomial)]
        self.assertEqual(many, len(cells))
        for low, high in cells:
            self.assertEqual(-1, sign(oracle.value(polynomial, low)) * sign(oracle.value(polynomial, high)))
        for before, after in zip(cells, cells[1:]):
            self.assertLessEqual(before[1], after[0])

    def test_ordinary(self):
        self.check((-2, 0, 1), 2)
        self.check((1, 0, 1), 0)
        self.check((6, 0, -5, 0, 1), 4)
        self.check((-2, 0, 0, 1), 1)
        self.check((1,), 0)

    def test_great_and_small_roots(self):
        great = 10 ** 120
        self.check((1, -great, 1), 2)
        self.check((1, great, 1), 2)
        self.check((great + 1, 0, -1), 2)
        self.check((-1, 0, great + 1), 2)

    def test_roots_very_near_to_one_another(self):
        # Mignotte's: two roots in the distance 10 ** -(40 * 11) or less.
        self.check((-2, 4 * 10 ** 40, -2 * 10 ** 80) + (0,) * 17 + (1,), 4)
        self.check((-2, -4 * 10 ** 40, -2 * 10 ** 80) + (0,) * 17 + (1,), 4)
        near = 10 ** 100
        polynomial = (4 * near + 2, 0, -4 * near - 1, 0, near)
        self.assertEqual(4, oracle.root_count(polynomial))
        self.check(polynomial, 4)

    def test_of_roots_that_are_not_real_and_very_near_to_the_line(self):
        near = 10 ** 100
        self.check((2 * near * near + 1, -4 * near * near * 2, 4 * near * near * 2), 0)
        self.check((4 * near + 1, 0, -4 * near, 0, near), 0)

    def test_as_sturm_tells(self):
        chance = random.Random(61)
        for _ in range(40):
            for place in real_places(random_polynomial(chance)):
                if place.polynomial:
                    self.check(place.polynomial, oracle.root_count(place.polynomial))


class Narrowing(unittest.TestCase):
    def test_the_root_stays_inside(self):
        chance = random.Random(62)
        for _ in range(30):
            for place in real_places(random_polynomial(chance)):
                if not place.polynomial:
                    continue
                for _ in range(9):
                    before = cell_of(place)
                    narrow(place)
                    low, high = cell_of(place)
                    self.assertTrue(before[0] <= low < high <= before[1])
                    self.assertLess(high - low, before[1] - before[0])
                    self.assertEqual(place.start, sign(oracle.value(place.polynomial, low)))
                    self.assertEqual(-place.start, sign(oracle.value(place.polynomial, high)))

    def test_it_becomes_faster(self):
        place = real_places((-2, 0, 1))[1]
        for _ in range(16):
            narrow(place)
        self.assertGreater(place.bits, 1000)

    def test_asking_often_for_a_sign_that_is_nought_does_not_go_on_narrowing(self):
        place = real_places((-2, 0, 1))[1]
        for _ in range(50):
            self.assertEqual(0, sign_at_place((-4, 0, 2), place))
            self.assertEqual(0, sign_at_place((6, 0, -5, 0, 1), place))
        self.assertLess(place.bits, 1000)

    def test_comparing_one_number_often_does_not_go_on_narrowing(self):
        first, second = real_places((-2, 0, 1))[1], real_places((6, 0, -5, 0, 1))[2]
        for _ in range(50):
            self.assertEqual(0, compare_places(first, second))
        self.assertLess(first.bits + second.bits, 1000)


class Knots(unittest.TestCase):
    def test_cells_that_overlap_are_looked_at_only_where_they_do(self):
        # The root of 2 from 1 to 2, the root of 3 from 3 / 2 to 2: the common divisor has a root, but ahead of 3 / 2.
        first, second = knot_place(ROOT_TWO, (1, 2, 0)), knot_place(ROOT_THREE, (3, 4, 1))
        self.assertIs(False, are_same_knots(first, second))
        self.assertIs(False, are_same_knots(second, first))
        # The root of 2 from 5 / 4 to 3 / 2, the root of 3 from 5 / 4 to 2: it has one, but behind 3 / 2.
        first, second = knot_place(ALSO_ROOT_TWO, (5, 6, 2)), knot_place(((-3, 0, 1), 1), (5, 8, 2))
        self.assertIs(False, are_same_knots(first, second))
        self.assertIs(False, are_same_knots(second, first))

    def test_the_same_number(self):
        first, second = knot_place(ROOT_TWO, (1, 2, 0)), knot_place(ALSO_ROOT_TWO, (5, 6, 2))
        self.assertIs(True, are_same_knots(first, second))
        self.assertIs(True, are_same_knots(second, first))


class Between(unittest.TestCase):
    def test_cells_that_still_overlap(self):
        for first in (knot_place(ROOT_TWO, (1, 2, 0)), fraction_place((7, 5))):
            for second in (knot_place(ROOT_THREE, (3, 4, 1)), knot_place(((-3, 0, 1), 1), (1, 2, 0)),
                           fraction_place((3, 2))):
                found = fraction_place(fraction_between_places(first, second))
                self.assertEqual((-1, -1), (compare_places(first, found), compare_places(found, second)))


class RealPlaces(unittest.TestCase):
    def test_they_are_the_roots(self):
        chance = random.Random(63)
        for _ in range(20):
            polynomial = random_polynomial(chance)
            self.assertEqual(roots_of(polynomial), tuple(place.told for place in real_places(polynomial)))


if __name__ == "__main__":
    unittest.main()
