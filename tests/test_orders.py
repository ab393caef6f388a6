"""Orders: engines, stirs, silent orders, which stirs more, quiet arrangements."""

import itertools
import random
import unittest
from decimal import Decimal, getcontext
from fractions import Fraction
from math import gcd

import oracle
from chance import random_engine, random_line, told
from shaftshakes.errors import InvalidEngine, InvalidIndex, InvalidOrder
from shaftshakes.lines import paces_of, run_of
from shaftshakes.orders import compare_stirs, is_engine, quiet_arrangements, silent_orders, stir_parts, stirs
from shaftshakes.points import enclosed

ONE, NONE, MINUS = (1, 1), (0, 1), (-1, 1)
TWO = ((ONE, ONE), (NONE, ONE, NONE))
THREE = ((ONE,) * 3, (NONE, ONE, ONE, NONE))
# Its paces are 0, 2 - root 3, 1, 2, 3, 2 + root 3.
SIX = ((ONE,) * 6, (NONE,) + (ONE,) * 5 + (NONE,))
BOXER = (TWO, ((0, 0, ONE), (1, 6, ONE)))
FOUR_CRANKS = (TWO, ((0, 0, ONE), (0, 3, ONE), (0, 6, ONE), (0, 9, ONE)))
# With L = 2 - root 3 disc 1 goes as root 3 - 1: so one order leaves this swing silent, and not its like with 2 + root 3.
ROOTED = (SIX, ((1, 0, ONE), (0, 0, ONE), (0, 5, ONE), (0, 7, ONE)))

getcontext().prec = 120
ROOT = Decimal(3).sqrt()
COSINES = [(2, 0), (0, 1), (1, 0), (0, 0), (-1, 0), (0, -1), (-2, 0), (0, -1), (-1, 0), (0, 0), (1, 0), (0, 1)]


def turned(twelfths):
    """Twice the cosine and the sine of so many twelfths, each as (A, B) for A + B root 3."""
    return COSINES[twelfths % 12], COSINES[(twelfths - 3) % 12]


def exact_stir(engine, order, pace):
    """The stir, doubled, at a pace that is a fraction: (A, B, C, D) over Fraction."""
    line, cranks = engine
    angles = oracle.angles(line, pace)
    parts = [Fraction(0)] * 4
    for disc, twelfth, weight in cranks:
        cosine, sine = turned(order * twelfth)
        for place, times in enumerate(cosine + sine):
            parts[place] += times * Fraction(*weight) * angles[disc]
    return parts


def near_stir(engine, order, index):
    """The square of the size of the stir of a swing, to many figures."""
    line, cranks = engine
    low, high = enclosed(paces_of(line)[index], (1, 10 ** 110))
    pace = (Fraction(*low) + Fraction(*high)) / 2
    real, imaginary = Decimal(0), Decimal(0)
    angles = oracle.angles(line, pace)
    for disc, twelfth, weight in cranks:
        cosine, sine = turned(order * twelfth)
        push = angles[disc] * Fraction(*weight)
        push = Decimal(push.numerator) / Decimal(push.denominator)
        real += push * (cosine[0] + cosine[1] * ROOT)
        imaginary += push * (sine[0] + sine[1] * ROOT)
    return real * real + imaginary * imaginary


class Engines(unittest.TestCase):
    def test_engines(self):
        for engine in (BOXER, FOUR_CRANKS, ROOTED, (TWO, ((1, 11, (-3, 7)),)), (TWO, ((0, 0, ONE),) * 8)):
            self.assertIs(True, is_engine(engine))
            self.assertIs(True, is_engine(value=engine))

    def test_no_engines(self):
        crank = (0, 0, ONE)
        for value in (None, 0, "ab", (), TWO, (TWO,), (TWO, ()), (TWO, (crank,), 1), [TWO, (crank,)], (TWO, [crank]),
                      (TWO, crank), (TWO, (crank,) * 9), (list(TWO), (crank,)), ((ONE, NONE), (crank,)),
                      (TWO, (list(crank),)), (TWO, ((0, 0),)), (TWO, ((0, 0, ONE, 0),)), (TWO, ((2, 0, ONE),)),
                      (TWO, ((-1, 0, ONE),)), (TWO, ((True, 0, ONE),)), (TWO, ((None, 0, ONE),)), (TWO, ((0, 12, ONE),)),
                      (TWO, ((0, -1, ONE),)), (TWO, ((0, False, ONE),)), (TWO, ((0, (0, 1), ONE),)), (TWO, ((0, 0, NONE),)),
                      (TWO, ((0, 0, (2, 2)),)), (TWO, ((0, 0, (1, -1)),)), (TWO, ((0, 0, 1),)), (TWO, ((0, 0, None),)),
                      (TWO, (crank, None))):
            self.assertIs(False, is_engine(value))

    def test_by_chance(self):
        chance = random.Random(1201)
        for _ in range(40):
            self.assertIs(True, is_engine(random_engine(chance)))


class Parts(unittest.TestCase):
    def test_ordinary(self):
        self.assertEqual(((0, 1), (), (), ()), stir_parts(BOXER, 1))
        self.assertEqual(((2,), (1,), (1,), ()), stir_parts((TWO, ((0, 0, ONE), (0, 1, ONE))), 1))
        self.assertEqual(((2, -1), (), (), ()), stir_parts(BOXER, 2))
        self.assertEqual(((2, -1), (-1,), (), ()), stir_parts(ROOTED, 1))

    def test_each_twelfth(self):
        names = [((1,), (), (), ()), ((), (1,), (1,), ()), ((1,), (), (), (1,)), ((), (), (1,), ()),
                 ((-1,), (), (), (1,)), ((), (-1,), (1,), ()), ((-1,), (), (), ()), ((), (-1,), (-1,), ()),
                 ((-1,), (), (), (-1,)), ((), (), (-1,), ()), ((1,), (), (), (-1,)), ((), (1,), (-1,), ())]
        for twelfth in range(12):
            self.assertEqual(names[twelfth], stir_parts((TWO, ((0, twelfth, (7, 3)),)), 1))
            self.assertEqual(names[-twelfth % 12], stir_parts((TWO, ((0, twelfth, ONE),)), -1))
            self.assertEqual(names[5 * twelfth % 12], stir_parts((TWO, ((0, twelfth, ONE),)), 12 * 10 ** 40 + 5))

    def test_cranks_that_cancel_everywhere(self):
        self.assertEqual(((), (), (), ()), stir_parts(FOUR_CRANKS, 1))
        self.assertEqual(((), (), (), ()), stir_parts(FOUR_CRANKS, -2))
        self.assertEqual(((1,), (), (), ()), stir_parts(FOUR_CRANKS, 4))
        self.assertEqual(((), (), (), ()), stir_parts((TWO, ((1, 2, ONE), (1, 2, MINUS))), 0))

    def test_thinned_together_and_as_the_table_tells(self):
        chance = random.Random(1202)
        for _ in range(60):
            engine = random_engine(chance)
            order = chance.choice([0, 1, -1, chance.randint(-30, 30), 10 ** 30])
            parts = stir_parts(engine, order)
            numbers = [number for part in parts for number in part]
            self.assertEqual(1 if numbers else 0, gcd(*numbers))
            self.assertEqual([], [part for part in parts if part and part[-1] == 0])
            factors = set()
            for pace in (Fraction(-1), Fraction(7, 3), Fraction(12)):
                for part, number in zip(parts, exact_stir(engine, order, pace)):
                    value = oracle.value(part, pace)
                    self.assertEqual(value == 0, number == 0)
                    if number:
                        factors.add(value / number)
            self.assertLessEqual(len(factors), 1)
            self.assertTrue(all(factor > 0 for factor in factors))


class Stirs(unittest.TestCase):
    def test_ordinary(self):
        self.assertEqual([False, True], [stirs(BOXER, 1, index) for index in (0, 1)])
        self.assertEqual([True, False], [stirs(BOXER, 2, index) for index in (0, 1)])

    def test_a_root_of_three_in_the_pace(self):
        self.assertEqual([True, False, True, True, True, True], [stirs(ROOTED, 1, index) for index in range(6)])
        # Their like with the opposite sign: then the other one of both is silent.
        other = (SIX, ((1, 0, ONE), (0, 0, ONE), (0, 1, ONE), (0, 11, ONE)))
        self.assertEqual([True, True, True, True, True, False], [stirs(other, 1, index) for index in range(6)])
        # The same in what is shifted by a quarter.
        side = (SIX, tuple((disc, (twelfth + 3) % 12, weight) for disc, twelfth, weight in ROOTED[1]))
        self.assertEqual([True, False, True, True, True, True], [stirs(side, 1, index) for index in range(6)])

    def test_far_orders(self):
        chance = random.Random(1203)
        for _ in range(30):
            engine = random_engine(chance)
            index = chance.randrange(len(engine[0][0]))
            order = chance.randint(-20, 20)
            found = stirs(engine, order, index)
            for other in (order + 12, order - 12, -order, order + 12 * 10 ** 50, -order - 1200):
                self.assertIs(found, stirs(engine, other, index))
                self.assertEqual(0, compare_stirs(engine, order, other, index))

    def test_as_many_figures_tell(self):
        chance = random.Random(1204)
        silent = 0
        for _ in range(150):
            engine = random_engine(chance)
            index, order = chance.randrange(len(engine[0][0])), chance.randint(0, 11)
            size = near_stir(engine, order, index)
            found = stirs(engine, order, index)
            silent += not found
            if found:
                self.assertGreater(size, Decimal(10) ** -60)
            else:
                self.assertLess(size, Decimal(10) ** -100)
        self.assertGreater(silent, 8)

    def test_one_crank_stirs_where_its_disc_moves(self):
        for index, silent in ((0, ()), (1, tuple(range(12))), (2, ())):
            self.assertEqual(silent, silent_orders((THREE, ((1, 5, (-2, 3)),)), index))

    def test_eight_cranks(self):
        engine = (TWO, tuple((0, (3 * k) % 12, ONE) for k in range(8)))
        self.assertEqual((1, 2, 3, 5, 6, 7, 9, 10, 11), silent_orders(engine, 0))
        self.assertEqual([True, False], [stirs(engine, order, 1) for order in (-400, 401)])


class Silent(unittest.TestCase):
    def test_ordinary(self):
        self.assertEqual([(1, 3, 5, 7, 9, 11), (0, 2, 4, 6, 8, 10)], [silent_orders(BOXER, index) for index in (0, 1)])
        self.assertEqual(tuple(range(12)), silent_orders((TWO, ((0, 0, ONE), (0, 0, MINUS))), 1))
        self.assertEqual((1, 11), silent_orders(ROOTED, 1))
        self.assertEqual((5, 7), silent_orders(ROOTED, 5))

    def test_it_is_those_that_do_not_stir(self):
        chance = random.Random(1205)
        for _ in range(25):
            engine = random_engine(chance)
            index = chance.randrange(len(engine[0][0]))
            self.assertEqual(tuple(order for order in range(12) if not stirs(engine, order, index)),
                             silent_orders(engine, index))


class Compared(unittest.TestCase):
    def test_ordinary(self):
        self.assertEqual([1, -1, 0, 0], [compare_stirs(BOXER, *orders, 1) for orders in ((1, 2), (2, 1), (1, -1), (2, 4))])
        self.assertEqual([-1, 1], [compare_stirs(BOXER, *orders, 0) for orders in ((1, 2), (2, 1))])
        # |1 + e^(i 30)| against |1 + e^(i 60)|, and against root 3 itself.
        engine = (TWO, ((0, 0, ONE), (0, 1, ONE)))
        self.assertEqual([1, 1, -1], [compare_stirs(engine, 1, 2, 0), compare_stirs(engine, 2, 3, 0),
                                      compare_stirs(engine, 6, 5, 0)])

    def test_a_root_of_three_in_the_pace(self):
        # With one order nothing is left of it, with the order 5 it is 2 root 3.
        self.assertEqual([-1, 1, 0], [compare_stirs(ROOTED, *orders, 1) for orders in ((1, 5), (5, 1), (1, 11))])
        # The orders 0 and 1 give 1 + 2 x and 1 + root 3 x, with x = 2 t_1 - 2: alike in size if x is 2 root 3 - 4.
        engine = (SIX, ((0, 0, ONE), (1, 1, (2, 1)), (1, 11, (2, 1)), (0, 1, (-2, 1)), (0, 11, (-2, 1))))
        self.assertEqual([0, 1, 1], [compare_stirs(engine, 0, 1, index) for index in (1, 4, 5)])

    def test_as_many_figures_tell(self):
        chance = random.Random(1206)
        alike = 0
        for _ in range(120):
            engine = random_engine(chance)
            index = chance.randrange(len(engine[0][0]))
            first, second = chance.randint(0, 11), chance.randint(0, 11)
            less = near_stir(engine, first, index) - near_stir(engine, second, index)
            found = compare_stirs(engine, first, second, index)
            alike += found == 0
            if found:
                self.assertGreater(less * found, Decimal(10) ** -60)
            else:
                self.assertLess(abs(less), Decimal(10) ** -100)
        self.assertGreater(alike, 20)

    def test_turning_all_changes_no_size(self):
        chance = random.Random(1207)
        for _ in range(30):
            engine = random_engine(chance)
            index, step = chance.randrange(len(engine[0][0])), chance.randrange(12)
            other = (engine[0], tuple((disc, (twelfth + step) % 12, weight) for disc, twelfth, weight in engine[1]))
            self.assertEqual(silent_orders(engine, index), silent_orders(other, index))
            first, second = chance.randint(0, 11), chance.randint(0, 11)
            self.assertEqual(compare_stirs(engine, first, second, index), compare_stirs(other, first, second, index))


class Arranged(unittest.TestCase):
    def test_ordinary(self):
        self.assertEqual(((0, 6),), quiet_arrangements(BOXER, 1, 0))
        self.assertEqual((), quiet_arrangements(BOXER, 1, 1))
        self.assertEqual(6, len(quiet_arrangements(FOUR_CRANKS, 1, 1)))
        self.assertEqual((), quiet_arrangements(FOUR_CRANKS, 4, 1))

    def test_one_crank(self):
        engine = (THREE, ((1, 7, ONE),))
        self.assertEqual([(), ((7,),), ()], [quiet_arrangements(engine, 3, index) for index in range(3)])

    def test_the_same_twelfths_twice(self):
        engine = (TWO, ((0, 0, ONE), (1, 6, ONE), (0, 6, ONE), (1, 0, ONE)))
        # In the swing with the pace 2 the discs go as 1 and -1: like discs must have opposite twelfths, or like twelfths
        # stand at unlike discs.
        self.assertEqual(((0, 0, 6, 6), (0, 6, 6, 0)), quiet_arrangements(engine, 1, 1))
        self.assertEqual(((0, 0, 0),), quiet_arrangements((TWO, ((0, 0, ONE), (1, 0, (2, 1)), (1, 0, MINUS))), 5, 1))

    def test_six_cranks_and_seven(self):
        six = (TWO, tuple((0, 2 * k, ONE) for k in range(6)))
        found = quiet_arrangements(six, 1, 1)
        self.assertEqual(120, len(found))
        self.assertEqual((0, 2, 4, 6, 8, 10), found[0])
        for many in (7, 8):
            engine = (TWO, ((0, 0, ONE),) * many)
            self.assertIs(True, is_engine(engine))
            for order, index in ((1, 1), (None, None)):
                with self.assertRaises(InvalidEngine) as caught:
                    quiet_arrangements(engine, order, index)
                self.assertIs(engine, caught.exception.given)

    def test_as_each_alone(self):
        chance = random.Random(1208)
        some = 0
        for _ in range(60):
            engine = random_engine(chance, random_line(chance, chance.randint(1, 3)), 5)
            line, cranks = engine
            order, index = chance.randint(-9, 9), chance.randrange(len(line[0]))
            rows = set()
            for row in itertools.permutations([twelfth for _, twelfth, _ in cranks[1:]]):
                row = (cranks[0][1],) + row
                other = (line, tuple((disc, twelfth, weight) for (disc, _, weight), twelfth in zip(cranks, row)))
                if not stirs(other, order, index):
                    rows.add(row)
            some += 0 < len(rows)
            self.assertEqual(tuple(sorted(rows)), quiet_arrangements(engine, order, index))
        self.assertGreater(some, 5)


class WrongOnes(unittest.TestCase):
    def check(self, error, given, function, *arguments):
        with self.assertRaises(error) as caught:
            function(*arguments)
        self.assertIs(given, caught.exception.given)

    def test_each(self):
        for order in (None, True, "1", (1, 1), [1]):
            self.check(InvalidOrder, order, stir_parts, BOXER, order)
            self.check(InvalidOrder, order, stirs, BOXER, order, 9)
            self.check(InvalidOrder, order, compare_stirs, BOXER, order, None, 9)
            self.check(InvalidOrder, order, compare_stirs, BOXER, 1, order, 9)
            self.check(InvalidOrder, order, quiet_arrangements, BOXER, order, 9)
        for index in (None, True, -1, 2, (1, 1)):
            self.check(InvalidIndex, index, stirs, BOXER, 0, index)
            self.check(InvalidIndex, index, silent_orders, BOXER, index)
            self.check(InvalidIndex, index, compare_stirs, BOXER, 0, -5, index)
            self.check(InvalidIndex, index, quiet_arrangements, BOXER, 0, index)

    def test_engines_come_first(self):
        engine = (TWO, ((2, 0, ONE),))
        self.check(InvalidEngine, engine, stir_parts, engine, None)
        self.check(InvalidEngine, engine, stirs, engine, None, None)
        self.check(InvalidEngine, engine, silent_orders, engine, None)
        self.check(InvalidEngine, engine, compare_stirs, engine, None, None, None)
        self.check(InvalidEngine, engine, quiet_arrangements, engine, None, None)

    def test_thinning_does_not_hang_on_the_line(self):
        # The same line, all its numbers times one number: the same stirs.
        line = tuple(tuple(told(Fraction(*number) * Fraction(7, 5)) for number in row) for row in SIX)
        for order in range(12):
            self.assertEqual(stir_parts(ROOTED, order), stir_parts((line, ROOTED[1]), order))

    def test_the_run_tells_the_stir_of_one_crank(self):
        for disc, angle in enumerate(run_of(SIX)[:-1]):
            self.assertEqual((angle, (), (), ()), stir_parts((SIX, ((disc, 4, (5, 3)),)), 3))


if __name__ == "__main__":
    unittest.main()
