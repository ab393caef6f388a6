"""Factors modulo primes and factors with short numbers; what is told of long polynomials."""

import itertools
import random
import unittest

from chance import multiplied, random_number
from shaftshakes.algebra import derivative
from shaftshakes.divisors import divisor_modulo
from shaftshakes.factors import is_long, product_of_all, short_factors
from shaftshakes.lines import compare_pace, paces_of, run_of
from shaftshakes.modular import divided_modulo, factors_modulo, fixed_polynomials, monic_modulo
from shaftshakes.points import compare_points, is_point, roots_of, sign_at
from shaftshakes.polynomials import plain_polynomial

GREAT = 4 * 10 ** 399


def figures(polynomial):
    return max(len(str(abs(number))) for number in polynomial)


class ModuloPrimes(unittest.TestCase):
    def polynomials(self):
        chance = random.Random(71)
        for prime in (2, 3, 5, 7, 13, 31):
            for degree in range(1, 9):
                polynomial = tuple(chance.randrange(prime) for _ in range(degree)) + (chance.randrange(1, prime),)
                if len(divisor_modulo(polynomial, derivative(polynomial), prime)) == 1:
                    yield polynomial, prime

    def test_the_factors_make_the_polynomial(self):
        for polynomial, prime in self.polynomials():
            factors = factors_modulo(polynomial, prime)
            self.assertEqual(monic_modulo(polynomial, prime), product_of_all(factors, prime))
            for factor in factors:
                self.assertEqual(1, factor[-1])
                self.assertEqual(1, len(fixed_polynomials(factor, prime)))

    def test_nothing_divides_them(self):
        for polynomial, prime in self.polynomials():
            if prime > 3:
                continue
            for factor in factors_modulo(polynomial, prime):
                for degree in range(1, (len(factor) - 1) // 2 + 1):
                    for numbers in itertools.product(range(prime), repeat=degree):
                        self.assertNotEqual((), divided_modulo(factor, numbers + (1,), prime)[1])


class ShortFactors(unittest.TestCase):
    def test_long_products_of_short_ones(self):
        chance = random.Random(72)
        for _ in range(15):
            parts = []
            for _ in range(chance.randint(2, 4)):
                size = 10 ** chance.choice([150, 250, 390])
                parts.append(tuple(chance.randint(-size, size) for _ in range(chance.choice([3, 4, 5]))))
            polynomial = plain_polynomial(multiplied(*parts))
            factors = short_factors(polynomial)
            self.assertEqual(polynomial, multiplied(*factors))
            self.assertEqual([], [factor for factor in factors if is_long(factor)])

    def test_what_has_no_short_factor_stays(self):
        polynomial = (10 ** 400 + 1, 3, 0, 10 ** 400 + 7)
        self.assertEqual([polynomial], short_factors(polynomial))
        self.assertEqual([(1, 0, 3), polynomial], short_factors(multiplied(polynomial, (1, 0, 3))))

    def test_what_is_long(self):
        self.assertIs(False, is_long((10 ** 400 - 1, 1 - 10 ** 400)))
        self.assertIs(True, is_long((0, 10 ** 400)))
        self.assertIs(True, is_long((-10 ** 400, 1)))


class Told(unittest.TestCase):
    def test_roots_of_a_polynomial_whose_plain_part_is_long(self):
        # The polynomial is short; without its root 1 its numbers are longer, but those of one factor are not.
        factor = tuple(GREAT + number for number in (5, 3, 7, 1, 9, 4, 6, 2, 8, 5, 3)) + (-1,)
        polynomial = multiplied((-1, 0, 0, 1), factor)
        self.assertEqual((400, 401), (figures(polynomial), figures(multiplied((1, 1, 1), factor))))
        found = roots_of(polynomial)
        self.assertEqual(2, len(found))
        self.assertEqual((1, 1), found[0])
        self.assertEqual(400, figures(found[1][0]))
        self.assertEqual(0, sign_at(polynomial, found[1]))

    def test_knots_of_several_factors_are_told_in_their_order(self):
        factors = [(-10 ** 150 - number, 0, 10 ** 149 * number) for number in (7, 3, 1, 9)]
        polynomial = multiplied(*factors)
        self.assertTrue(is_long(polynomial))
        found = roots_of(polynomial)
        self.assertEqual(8, len(found))
        for place, point in enumerate(found):
            self.assertIs(True, is_point(point))
            self.assertLessEqual(figures(point[0]), 400)
            self.assertEqual(0, sign_at(polynomial, point))
            if place:
                self.assertEqual(-1, compare_points(found[place - 1], point))

    def test_paces_of_a_line_that_is_the_same_from_both_ends(self):
        chance = random.Random(73)
        size = 10 ** 38
        discs = [random_number(chance, size) for _ in range(4)]
        shafts = [random_number(chance, size) for _ in range(5)]
        line = (tuple(discs + discs[::-1]), tuple(shafts + shafts[3::-1]))
        self.assertTrue(is_long(run_of(line)[-1]))
        found = paces_of(line)
        self.assertEqual(8, len(found))
        for index, point in enumerate(found):
            self.assertLessEqual(figures(point[0]), 400)
            self.assertEqual(0, compare_pace(line, index, point))

    def test_paces_whose_knots_are_all_long(self):
        chance = random.Random(74)
        size = 10 ** 80
        line = (tuple(random_number(chance, size) for _ in range(5)), tuple(random_number(chance, size) for _ in range(6)))
        found = paces_of(line)
        self.assertEqual(5, len(found))
        for index, point in enumerate(found):
            self.assertTrue(is_long(point[0]))
            self.assertEqual(0, compare_pace(line, index, point))


if __name__ == "__main__":
    unittest.main()
