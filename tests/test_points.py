"""Points: fractions and knots, the roots of polynomials, signs, order, fractions around them."""

import random
import unittest
from fractions import Fraction

import oracle
from chance import multiplied, random_fraction, random_polynomial
from shaftshakes.errors import InvalidFraction, InvalidPoint, InvalidPolynomial, Nought, Same
from shaftshakes.points import compare_points, enclosed, fraction_between, is_knot, is_point, roots_of, sign_at
from shaftshakes.polynomials import count_roots, plain_polynomial

ROOT_TWO = ((-2, 0, 1), 1)
# The same numbers as the roots of (L * L - 2) * (L * L - 3), and of (L * L - 2) * (L * L + 1).
TWO_AND_THREE = (6, 0, -5, 0, 1)
TWO_ALONE = (-2, 0, -1, 0, 1)


def is_fraction_told(point):
    return type(point[0]) is int


class Kinds(unittest.TestCase):
    def test_knots(self):
        for knot in (ROOT_TWO, ((-2, 0, 1), 0), (TWO_AND_THREE, 0), (TWO_AND_THREE, 3), (TWO_ALONE, 1),
                     ((-2, 0, 0, 1), 0),
                     ((-1, 0, 0, 0, 2), 1), ((-10 ** 399 - 1, 0, 10 ** 399), 1)):
            self.assertIs(True, is_knot(knot))
            self.assertIs(True, is_point(knot))

    def test_no_knots(self):
        for value in (((-2, 0, 1), 2), ((-2, 0, 1), -1), ((1, 0, 1), 0), ((-2, 0, 0, 1), 1), ((-4, 0, 2), 0),
                      ((2, 0, -1), 0),
                      ((4, 0, -4, 0, 1), 0), ((0, -2, 0, 1), 2), ((2, -4, -1, 2), 0), ((2, -4, -1, 2), 2),
                      ((-1, 2), 0),
                      ((3,), 0), ((), 0), ((-2, 0, 1), True), ((-2, 0, 1), False), ([-2, 0, 1], 1), [(-2, 0, 1), 1],
                      ((-2, 0, 1), 1, 0), ((-2, 0, 1),), ((-2, 0, 1, 0), 1), ((-2, False, 1), 1), ((-6, 0, 3), 0),
                      multiplied((-2, 0, 1), (-1, 3)), (multiplied((-2, 0, 1), (-1, 3)), 1)):
            self.assertIs(False, is_knot(value))
            self.assertIs(False, is_point(value))

    def test_fractions_are_points_and_no_knots(self):
        for fraction in ((0, 1), (1, 1), (-7, 3), (10 ** 399, 10 ** 398 + 1)):
            self.assertIs(True, is_point(fraction))
            self.assertIs(False, is_knot(fraction))
        for value in ((0, 2), (2, 4), (1, 0), (1, -1), (1, True), (True, 1), [1, 2], (1,), 1, None):
            self.assertIs(False, is_point(value))


class Roots(unittest.TestCase):
    def test_fractions_beside_others(self):
        self.assertEqual((((-2, 0, 1), 0), (1, 2), ((-2, 0, 1), 1)), roots_of((2, -4, -1, 2)))
        polynomial = multiplied((-3, 2), (-3, 2), (1, 1), (-2, 0, 1), (-2, 0, 1), (0, 1), (5, 0, 1))
        found = roots_of(polynomial)
        self.assertEqual([(-1, 1), (0, 1), (3, 2)], [point for point in found if is_fraction_told(point)])
        self.assertEqual(5, len(found))
        self.assertEqual(0, compare_points(found[3], ROOT_TWO))
        self.assertEqual(0, compare_points(found[0], ((-2, 0, 1), 0)))

    def test_fractions_alone(self):
        self.assertEqual(((-1, 3), (5, 2)), roots_of(multiplied((-5, 2), (1, 3), (1, 3), (1, 0, 1))))
        self.assertEqual(((0, 1),), roots_of((0, 0, 0, -4)))
        self.assertEqual(((7, 1),), roots_of((-7, 1)))

    def test_none_and_nought(self):
        self.assertEqual((), roots_of((1, 0, 1)))
        self.assertEqual((), roots_of((9,)))
        self.assertEqual((), roots_of((-9,)))
        self.assertRaises(Nought, roots_of, ())

    def test_many_at_once(self):
        polynomial = multiplied(*[(-number, 0, 1) for number in range(1, 21)])
        found = roots_of(polynomial)
        self.assertEqual(40, len(found))
        self.assertEqual([(-4, 1), (-3, 1), (-2, 1), (-1, 1), (1, 1), (2, 1), (3, 1), (4, 1)],
                         [point for point in found if is_fraction_told(point)])
        self.assert_ascending_points(polynomial, found)

    def assert_ascending_points(self, polynomial, found):
        for place, point in enumerate(found):
            self.assertIs(True, is_point(point))
            self.assertEqual(0, sign_at(polynomial, point))
            if is_knot(point):
                self.assertLessEqual(len(point[0]), 41)
                self.assertLess(max(abs(number) for number in point[0]), 10 ** 400)
            if place:
                self.assertEqual(-1, compare_points(found[place - 1], point))

    def test_as_sturm_tells(self):
        chance = random.Random(11)
        for _ in range(80):
            polynomial = random_polynomial(chance)
            found = roots_of(polynomial)
            self.assertEqual(oracle.root_count(polynomial), len(found))
            self.assert_ascending_points(polynomial, found)
            for index, point in enumerate(found):
                low, high = oracle.cell(polynomial, index, Fraction(1, 10 ** 6))
                own = [Fraction(*fraction) for fraction in enclosed(point, (1, 10 ** 6))]
                self.assertTrue(own[0] <= high and low <= own[1])

    def test_great_and_small_ones(self):
        great = 10 ** 300
        found = roots_of((1, -great, 1))
        self.assertEqual(2, len(found))
        self.assertEqual(-1, compare_points(found[0], (1, great - 1)))
        self.assertEqual(1, compare_points(found[0], (1, great)))
        self.assertEqual(-1, compare_points(found[1], (great, 1)))
        self.assertEqual(1, compare_points(found[1], (great - 1, 1)))

    def test_near_to_one_another(self):
        steep = (-2, 4 * 10 ** 30, -2 * 10 ** 60) + (0,) * 17 + (1,)
        found = roots_of(steep)
        self.assertEqual(4, len(found))
        self.assertEqual([-1, -1, 1, 1], [compare_points(point, (1, 10 ** 30)) for point in found])
        between = fraction_between(found[1], found[2])
        self.assertEqual([-1, -1, 1, 1], [compare_points(point, between) for point in found])


class Signs(unittest.TestCase):
    def test_at_fractions(self):
        self.assertEqual([-1, 0, 1], [sign_at((-1, 2), point) for point in ((0, 1), (1, 2), (1, 1))])
        self.assertEqual(-1, sign_at((-2, -1, 0, 3, -1, 2, 7), (0, 1)))

    def test_at_knots(self):
        self.assertEqual(1, sign_at((-1, 1), ROOT_TWO))
        self.assertEqual(-1, sign_at((-1, 1), ((-2, 0, 1), 0)))
        self.assertEqual([0, 0], [sign_at((-2, 0, 1), (TWO_AND_THREE, index)) for index in (1, 2)])
        self.assertEqual([1, 1], [sign_at((-2, 0, 1), (TWO_AND_THREE, index)) for index in (0, 3)])
        self.assertEqual([0, 1, -1, 0], [sign_at(multiplied((-3, 0, 1), (1, 5)), (TWO_AND_THREE, index))
                                         for index in range(4)])

    def test_of_nought_and_whole_numbers(self):
        for point in (ROOT_TWO, (0, 1), (5, 3)):
            self.assertEqual(0, sign_at((), point))
            self.assertEqual(1, sign_at((4,), point))
            self.assertEqual(-1, sign_at((-4,), point))

    def test_of_polynomials_whose_roots_are_near(self):
        near = 10 ** 150
        # A number so near to the root of 2 that the first 150 figures are the same.
        low, high = oracle_root_two(near)
        self.assertEqual(1, sign_at((-low.numerator, low.denominator), ROOT_TWO))
        self.assertEqual(-1, sign_at((-high.numerator, high.denominator), ROOT_TWO))
        self.assertEqual(-1, sign_at((-2 * near - 1, 0, near), ROOT_TWO))
        self.assertEqual(1, sign_at((-2 * near + 1, 0, near), ROOT_TWO))
        self.assertEqual(0, sign_at(multiplied((-2 * near + 1, 0, near), (-2, 0, 1)), ROOT_TWO))

    def test_as_fractions_around_tell(self):
        chance = random.Random(12)
        knots = [point for _ in range(20) for point in roots_of(random_polynomial(chance)) if is_knot(point)]
        for knot in knots:
            polynomial = random_polynomial(chance)
            low, high = (Fraction(*fraction) for fraction in enclosed(knot, (1, 10 ** 40)))
            if count_roots(polynomial, (low.numerator, low.denominator), (high.numerator, high.denominator)):
                continue
            told = oracle.value(polynomial, (low + high) / 2)
            self.assertEqual((told > 0) - (told < 0), sign_at(polynomial, knot))


def oracle_root_two(scale):
    """Two fractions around the root of 2 that differ by 1 / scale."""
    low, high = 1, 2 * scale
    while high - low > 1:
        half = (low + high) // 2
        low, high = (half, high) if half * half < 2 * scale * scale else (low, half)
    return Fraction(low, scale), Fraction(high, scale)


class Order(unittest.TestCase):
    def test_fractions(self):
        self.assertEqual([-1, 0, 1], [compare_points((1, 3), point) for point in ((1, 2), (1, 3), (1, 4))])
        self.assertEqual(-1, compare_points((-1, 2), (-1, 3)))

    def test_knots_and_fractions(self):
        self.assertEqual([1, -1], [compare_points(ROOT_TWO, point) for point in ((7, 5), (3, 2))])
        self.assertEqual([-1, 1], [compare_points(point, ROOT_TWO) for point in ((7, 5), (3, 2))])
        low, high = oracle_root_two(10 ** 390)
        self.assertEqual(1, compare_points(ROOT_TWO, (low.numerator, low.denominator)))
        self.assertEqual(-1, compare_points(ROOT_TWO, (high.numerator, high.denominator)))

    def test_one_number_told_by_two_knots(self):
        knots = [ROOT_TWO, (TWO_AND_THREE, 2), (TWO_ALONE, 1), (multiplied((-2, 0, 1), (-2, 0, 0, 1)), 2)]
        for knot in knots:
            for other in knots:
                self.assertEqual(0, compare_points(knot, other))

    def test_numbers_of_one_polynomial_and_of_several(self):
        self.assertEqual([0, 1, 1, 1],
                         [compare_points((TWO_AND_THREE, index), (TWO_AND_THREE, 0)) for index in range(4)])
        # The third root of 2, the root of 2, and the root of 3.
        cube, three = ((-2, 0, 0, 1), 0), ((-3, 0, 1), 1)
        self.assertEqual([-1, -1, -1],
                         [compare_points(*pair) for pair in ((cube, ROOT_TWO), (ROOT_TWO, three), (cube, three))])
        self.assertEqual([1, 1, 1],
                         [compare_points(*pair) for pair in ((ROOT_TWO, cube), (three, ROOT_TWO), (three, cube))])

    def test_very_near(self):
        near = 10 ** 200
        above, below = ((-2 * near - 1, 0, near), 1), ((-2 * near + 1, 0, near), 1)
        self.assertEqual([-1, 1, -1],
                         [compare_points(*pair) for pair in ((ROOT_TWO, above), (ROOT_TWO, below), (below, above))])
        self.assertEqual([1, -1, 1],
                         [compare_points(*pair) for pair in ((above, ROOT_TWO), (below, ROOT_TWO), (above, below))])

    def test_as_fractions_around_tell(self):
        chance = random.Random(13)
        points = [point for _ in range(12) for point in roots_of(random_polynomial(chance))]
        points += [random_fraction(chance) for _ in range(5)]
        around = [[Fraction(*each) for each in enclosed(point, (1, 10 ** 40))] for point in points]
        for place, point in enumerate(points):
            for other_place, other in enumerate(points):
                told = 0
                if around[place][1] < around[other_place][0]:
                    told = -1
                elif around[other_place][1] < around[place][0]:
                    told = 1
                self.assertEqual(told, compare_points(point, other))


class Between(unittest.TestCase):
    def check(self, point, other):
        for first, second in ((point, other), (other, point)):
            found = fraction_between(first, second)
            self.assertTrue(is_point(found) and not is_knot(found))
            self.assertEqual(compare_points(first, second), compare_points(first, found))
            self.assertEqual(compare_points(first, second), compare_points(found, second))
            self.assertNotEqual(0, compare_points(first, found))

    def test_ordinary(self):
        for point, other in (((0, 1), (1, 1)), ((-5, 2), (7, 3)), (ROOT_TWO, (1, 1)), (ROOT_TWO, (3, 2)),
                             (ROOT_TWO, ((-3, 0, 1), 1)),
                             (((-2, 0, 1), 0), ROOT_TWO), ((TWO_AND_THREE, 2), (TWO_AND_THREE, 3))):
            self.check(point, other)

    def test_very_near(self):
        near = 10 ** 200
        low, high = oracle_root_two(10 ** 390)
        self.check(ROOT_TWO, ((-2 * near - 1, 0, near), 1))
        self.check(ROOT_TWO, (low.numerator, low.denominator))
        self.check(ROOT_TWO, (high.numerator, high.denominator))
        self.check((1, 10 ** 399), (1, 10 ** 399 - 1))

    def test_ends_of_halves(self):
        for denominator in (1, 2, 4, 8, 16, 32, 1024):
            low, high = oracle_root_two(denominator)
            self.check(ROOT_TWO, (low.numerator, low.denominator))
            self.check(ROOT_TWO, (high.numerator, high.denominator))

    def test_same(self):
        for point, other in (((1, 2), (1, 2)), (ROOT_TWO, ROOT_TWO), (ROOT_TWO, (TWO_AND_THREE, 2)),
                             ((TWO_AND_THREE, 2), ROOT_TWO)):
            with self.assertRaises(Same) as caught:
                fraction_between(point, other)
            self.assertIs(other, caught.exception.given)

    def test_same_is_checked_last(self):
        with self.assertRaises(InvalidPoint) as caught:
            fraction_between((1, 2), (2, 4))
        self.assertEqual((2, 4), caught.exception.given)


class Enclosed(unittest.TestCase):
    def check(self, point, width):
        low, high = enclosed(point, width)
        self.assertTrue(is_point(low) and is_point(high) and not is_knot(low) and not is_knot(high))
        self.assertEqual((-1, 1), (compare_points(low, point), compare_points(high, point)))
        self.assertLessEqual(Fraction(*high) - Fraction(*low), Fraction(*width))

    def test_ordinary(self):
        for point in ((0, 1), (-7, 3), (10 ** 300, 7), ROOT_TWO, ((-2, 0, 1), 0), (TWO_AND_THREE, 3),
                      ((-10 ** 300 - 1, 0, 1), 1)):
            for width in ((1, 1), (1, 3), (2, 7), (1, 10 ** 399), (10 ** 399, 1), (100, 1)):
                self.check(point, width)

    def test_widths_that_are_none(self):
        for width in ((0, 1), (-1, 2), (2, 4), 1, None, (1, 0), [1, 2]):
            for point in (ROOT_TWO, (1, 2)):
                with self.assertRaises(InvalidFraction) as caught:
                    enclosed(point, width)
                self.assertIs(width, caught.exception.given)


class WhatIsTold(unittest.TestCase):
    def test_knots_are_no_greater_than_what_was_passed(self):
        chance = random.Random(14)
        for _ in range(10):
            parts = [(-chance.randint(2, 10 ** 18) * 2, 0, chance.randint(1, 10 ** 17) * 2 + 1) for _ in range(10)]
            polynomial = multiplied(*parts, *[(-chance.randint(1, 9), chance.randint(1, 9)) for _ in range(20)])
            self.assertEqual(41, len(polynomial))
            for point in roots_of(polynomial):
                if not is_fraction_told(point):
                    self.assertLessEqual(len(point[0]), 41)
                    self.assertLess(max(abs(number) for number in point[0]), 10 ** 400)
                    self.assertEqual(point[0], plain_polynomial(point[0]))

    def test_numbers_that_are_fractions_are_told_as_such(self):
        chance = random.Random(15)
        for _ in range(60):
            roots = {Fraction(chance.randint(-30, 30), chance.randint(1, 12)) for _ in range(3)}
            parts = [(-root.numerator, root.denominator) for root in roots]
            found = roots_of(multiplied(*parts, (-2, 0, 1), (-7, 0, 0, 3)))
            self.assertEqual(sorted(roots), sorted(Fraction(*point) for point in found if is_fraction_told(point)))
            self.assertEqual(len(roots) + 3, len(found))


class ErrorsInTheirOrder(unittest.TestCase):
    def test_nought_last_and_points_after_polynomials(self):
        self.assertRaises(InvalidPolynomial, sign_at, (1, 0), None)
        self.assertRaises(InvalidPoint, sign_at, (), ((-2, 0, 1), 2))
        self.assertRaises(InvalidPolynomial, roots_of, (0,))
        self.assertRaises(InvalidPoint, enclosed, None, None)


if __name__ == "__main__":
    unittest.main()
