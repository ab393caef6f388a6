"""Polynomials: values, common divisors, plain polynomials, roots counted."""

import random
import unittest
from fractions import Fraction

import oracle
from chance import multiplied, random_fraction, random_polynomial
from shaftshakes import divisors, fractionroots
from shaftshakes.errors import InvalidFraction, InvalidPolynomial, Nought
from shaftshakes.polynomials import common_divisor, count_roots, is_polynomial, plain_polynomial, times_of, value_at


class Kinds(unittest.TestCase):
    def test_is_polynomial(self):
        for value in ((), (1,), (-5,), (0, 1), (0, 0, -2), (10 ** 399, -10 ** 399), (1,) * 60):
            self.assertIs(True, is_polynomial(value))
        for value in ((0,), (1, 0), (0, 0), [1], None, 3, True, (True,), (1, False), (1, None), "12", ("1",),
                      ((1,),), {1: 2}, {1}, b"1", (1, (2,)), range(1, 3)):
            self.assertIs(False, is_polynomial(value))


class Values(unittest.TestCase):
    def test_ordinary(self):
        self.assertEqual((0, 1), value_at((2, -4, -1, 2), (1, 2)))
        self.assertEqual((7, 4), value_at((1, 0, 3), (1, 2)))
        self.assertEqual((7, 4), value_at((1, 0, 3), (-1, 2)))
        self.assertEqual((-9, 2), value_at((0, 3), (-3, 2)))

    def test_nought_and_whole_numbers(self):
        self.assertEqual((0, 1), value_at((), (5, 3)))
        self.assertEqual((-4, 1), value_at((-4,), (5, 3)))
        self.assertEqual((6, 1), value_at((6, -4, 8), (0, 1)))

    def test_the_value_is_without_a_common_divisor(self):
        self.assertEqual((3, 1), value_at((0, 6), (1, 2)))
        self.assertEqual((1, 2), value_at((0, 0, 2), (1, 2)))

    def test_as_fractions_tell(self):
        chance = random.Random(1)
        for _ in range(200):
            polynomial, fraction = random_polynomial(chance), random_fraction(chance)
            told = oracle.value(polynomial, Fraction(*fraction))
            self.assertEqual((told.numerator, told.denominator), value_at(polynomial, fraction))


class CommonDivisors(unittest.TestCase):
    def test_ordinary(self):
        self.assertEqual((-1, 1), common_divisor((-1, 0, 1), (2, -4, 2)))
        self.assertEqual((1, -2, 1), common_divisor((1, -2, 1), (-3, 9, -9, 3)))
        self.assertEqual((-1, 2), common_divisor(multiplied((-1, 2), (1, 3)), multiplied((2, -4), (5, 1, 1))))

    def test_without_a_common_root(self):
        self.assertEqual((1,), common_divisor((-2, 0, 1), (-3, 0, 1)))
        self.assertEqual((1,), common_divisor((4,), (6,)))
        self.assertEqual((1,), common_divisor((4,), (0, 0, 2)))

    def test_beside_nought(self):
        self.assertEqual((-1, 2), common_divisor((), (6, -12)))
        self.assertEqual((-1, 2), common_divisor((6, -12), ()))
        self.assertEqual((1,), common_divisor((), (-7,)))
        self.assertRaises(Nought, common_divisor, (), ())

    def test_of_one_polynomial_twice_it_is_the_reduced_one(self):
        self.assertEqual((2, 0, -1, 3), common_divisor((-4, 0, 2, -6), (-4, 0, 2, -6)))

    def test_as_euclid_tells(self):
        chance = random.Random(2)
        for _ in range(150):
            shared = random_polynomial(chance)
            first = multiplied(shared, random_polynomial(chance))
            second = multiplied(shared, random_polynomial(chance))
            found = common_divisor(first, second)
            self.assertTrue(is_polynomial(found))
            self.assertEqual(oracle.divisor(first, second), [Fraction(number, found[-1]) for number in found])
            self.assertEqual(divisors.divisor_by_rests(first, second), found)
            self.assert_reduced(found)

    def assert_reduced(self, polynomial):
        self.assertGreater(polynomial[-1], 0)
        for divisor in range(2, max(abs(number) for number in polynomial) + 1):
            self.assertTrue(any(number % divisor for number in polynomial))

    def test_great_numbers(self):
        great = 10 ** 399
        shared = (great + 7, 0, 3, -great)
        first = multiplied(shared, (1, great, 2))
        second = multiplied(shared, (great, -5), (3, 1))
        self.assertEqual((-great - 7, 0, -3, great), common_divisor(first, second))
        self.assertEqual((1,), common_divisor((great, 1, 1), (great, 0, 1)))

    def test_numbers_that_the_first_prime_divides(self):
        prime = 2 ** 127 - 1
        self.assertEqual((1, prime), common_divisor(multiplied((1, prime), (2, 1)), multiplied((1, prime), (3, 1))))
        self.assertEqual((1,), common_divisor((1, 1), (1 + prime, 1)))
        self.assertEqual((5, 1), common_divisor(multiplied((5, 1), (1, 1)), multiplied((5, 1), (1 + prime, 1))))

    def test_where_no_prime_tells_the_divisor_the_rests_do(self):
        product = 1
        for bits in divisors.PRIME_BITS:
            product *= 2 ** bits - 1
        self.assertEqual((2, 3), divisors.divisor_of_both(multiplied((2, 3), (1, product)),
                                                          multiplied((2, 3), (5, product))))


class PlainPolynomials(unittest.TestCase):
    def test_ordinary(self):
        self.assertEqual((-1, 1), plain_polynomial((2, -4, 2)))
        self.assertEqual((-2, 0, 1), plain_polynomial((-8, 0, 8, 0, -2)))
        self.assertEqual((0, -1, 1), plain_polynomial(multiplied((0, 1), (0, 1), (0, 1), (3, -3))))

    def test_whole_numbers_and_nought(self):
        self.assertEqual((1,), plain_polynomial((5,)))
        self.assertEqual((1,), plain_polynomial((-5,)))
        self.assertRaises(Nought, plain_polynomial, ())

    def test_roots_that_are_not_real_count_too(self):
        self.assertEqual((1, 0, 1), plain_polynomial((1, 0, 2, 0, 1)))
        self.assertEqual((1, 1, 1, 1), plain_polynomial(multiplied((1, 0, 1), (1, 0, 1), (1, 1))))

    def test_as_euclid_tells(self):
        chance = random.Random(3)
        for _ in range(150):
            polynomial = random_polynomial(chance)
            found = plain_polynomial(polynomial)
            self.assertEqual(oracle.plain(polynomial), [Fraction(number, found[-1]) for number in found])
            self.assertEqual(found, plain_polynomial(found))
            self.assertEqual(found, common_divisor(found, found))

    def test_many_times(self):
        polynomial = multiplied(*[(-2, 0, 1)] * 9, *[(1, 3)] * 7, *[(1, 1, 1)] * 4)
        self.assertEqual(multiplied((-2, 0, 1), (1, 3), (1, 1, 1)), plain_polynomial(polynomial))


class Times(unittest.TestCase):
    def test_ordinary(self):
        self.assertEqual(2, times_of((1, -2, 1), (1, 1)))
        self.assertEqual(0, times_of((1, -2, 1), (-1, 1)))
        self.assertEqual(3, times_of(multiplied((-3, 2), (-3, 2), (5, 1), (9, -6)), (3, 2)))
        self.assertEqual(4, times_of((0, 0, 0, 0, 7), (0, 1)))

    def test_whole_numbers_and_nought(self):
        self.assertEqual(0, times_of((7,), (0, 1)))
        self.assertRaises(Nought, times_of, (), (1, 2))

    def test_as_derivatives_tell(self):
        chance = random.Random(4)
        for _ in range(200):
            polynomial, fraction = random_polynomial(chance), random_fraction(chance, 4)
            row, times = list(polynomial), 0
            while oracle.value(row, Fraction(*fraction)) == 0:
                row, times = oracle.slope(row), times + 1
            self.assertEqual(times, times_of(polynomial, fraction))


class Counts(unittest.TestCase):
    def test_ordinary(self):
        self.assertEqual(2, count_roots((2, -4, -1, 2), (0, 1), (2, 1)))
        self.assertEqual(3, count_roots((2, -4, -1, 2), (-2, 1), (2, 1)))
        self.assertEqual(0, count_roots((1, 0, 1), None, None))

    def test_bounds_that_are_roots_do_not_count(self):
        polynomial = multiplied((-1, 1), (-2, 1), (-3, 1))
        self.assertEqual(1, count_roots(polynomial, (1, 1), (3, 1)))
        self.assertEqual(0, count_roots(polynomial, (1, 1), (2, 1)))
        self.assertEqual(2, count_roots(polynomial, (1, 1), None))
        self.assertEqual(2, count_roots(polynomial, None, (3, 1)))

    def test_none_sets_no_bound(self):
        polynomial = multiplied((-1, 1), (-2, 0, 1), (10 ** 50, 1))
        self.assertEqual(4, count_roots(polynomial, None, None))
        self.assertEqual(3, count_roots(polynomial, (-2, 1), None))
        self.assertEqual(2, count_roots(polynomial, None, (0, 1)))

    def test_a_low_bound_that_is_not_below_the_high_one(self):
        polynomial = multiplied((-1, 1), (-2, 0, 1))
        self.assertEqual(0, count_roots(polynomial, (1, 1), (1, 1)))
        self.assertEqual(0, count_roots(polynomial, (2, 1), (-2, 1)))
        self.assertEqual(0, count_roots(polynomial, (5, 4), (5, 4)))

    def test_roots_that_come_several_times_count_once(self):
        polynomial = multiplied((-1, 1), (-1, 1), (-2, 0, 1), (-2, 0, 1), (-2, 0, 1))
        self.assertEqual(3, count_roots(polynomial, None, None))
        self.assertEqual(1, count_roots(polynomial, (0, 1), (7, 5)))

    def test_whole_numbers_and_nought(self):
        self.assertEqual(0, count_roots((3,), None, None))
        self.assertEqual(0, count_roots((-3,), (0, 1), (1, 1)))
        for low, high in ((None, None), ((1, 1), (0, 1)), ((0, 1), None)):
            self.assertRaises(Nought, count_roots, (), low, high)

    def test_roots_very_near_to_one_another(self):
        great = 10 ** 60
        polynomial = multiplied((-2, 0, 1), (-2 * great - 1, 0, great))
        self.assertEqual(4, count_roots(polynomial, None, None))
        self.assertEqual(2, count_roots(polynomial, (14141, 10000), (14143, 10000)))
        # Mignotte's: two roots that are nearer than 10 ** -60 to 1 / 10 ** 20.
        steep = (-2, 4 * 10 ** 20, -2 * 10 ** 40, 0, 0, 0, 0, 0, 0, 0, 1)
        self.assertEqual(4, count_roots(steep, None, None))
        self.assertEqual(1, count_roots(steep, (0, 1), (1, 10 ** 20)))
        self.assertEqual(1, count_roots(steep, (1, 10 ** 20), (1, 1)))
        self.assertEqual(2, count_roots(steep, (10 ** 30 - 1, 10 ** 50), (10 ** 30 + 1, 10 ** 50)))

    def test_as_sturm_tells(self):
        chance = random.Random(5)
        for _ in range(150):
            polynomial = random_polynomial(chance)
            for _ in range(4):
                low = chance.choice([None, random_fraction(chance)])
                high = chance.choice([None, random_fraction(chance)])
                bounds = [Fraction(*bound) if bound else None for bound in (low, high)]
                if None not in bounds and bounds[0] >= bounds[1]:
                    told = 0
                else:
                    told = oracle.root_count(polynomial, *bounds)
                self.assertEqual(told, count_roots(polynomial, low, high))

    def test_high_degrees(self):
        polynomial = multiplied(*[(-number, 1) for number in range(1, 41)])
        self.assertEqual(40, count_roots(polynomial, None, None))
        self.assertEqual(19, count_roots(polynomial, (20, 1), (40, 1)))
        self.assertEqual(2, count_roots((-2,) + (0,) * 59 + (1,), None, None))


class NoughtIsCheckedLast(unittest.TestCase):
    def test_it_is(self):
        with self.assertRaises(InvalidPolynomial) as caught:
            common_divisor((), (1, 0))
        self.assertEqual((1, 0), caught.exception.given)
        with self.assertRaises(InvalidFraction) as caught:
            times_of((), (2, 4))
        self.assertEqual((2, 4), caught.exception.given)
        with self.assertRaises(InvalidFraction) as caught:
            count_roots((), None, 5)
        self.assertEqual(5, caught.exception.given)
        with self.assertRaises(InvalidFraction) as caught:
            count_roots((), 4, 5)
        self.assertEqual(4, caught.exception.given)


class FractionRoots(unittest.TestCase):
    def test_all_are_found_and_no_other_ones(self):
        chance = random.Random(6)
        for _ in range(150):
            roots = sorted({Fraction(*random_fraction(chance)) for _ in range(chance.randint(0, 4))})
            parts = [(-root.numerator, root.denominator) for root in roots]
            polynomial = plain_polynomial(multiplied(*parts,
                                                     *chance.sample([(-2, 0, 1), (1, 0, 1), (-3, 0, 0, 5)], 2)))
            found = fractionroots.fractions_among_roots(polynomial)
            self.assertEqual(roots, sorted(Fraction(*fraction) for fraction in found))

    def test_great_ones_and_double_ones_modulo_many_primes(self):
        step = 2 * 3 * 5 * 7 * 11 * 13 * 17 * 19 * 23 * 29 * 31 * 37
        roots = [(1, 1), (1 + step, 1), (10 ** 390 + 1, 10 ** 390), (0, 1)]
        polynomial = multiplied(*[(-top, bottom) for top, bottom in roots], (1, 1, 1))
        self.assertEqual(sorted(roots), sorted(fractionroots.fractions_among_roots(polynomial)))


if __name__ == "__main__":
    unittest.main()
