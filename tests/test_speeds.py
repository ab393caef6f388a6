"""Speeds: those of orders and swings, critical ones, clear ones."""

import random
import unittest
from fractions import Fraction

from chance import multiplied, random_engine, random_line, random_number, told
from shaftshakes.backs import line_of_paces
from shaftshakes.errors import InvalidEngine, InvalidIndex, InvalidNumber, InvalidOrder, InvalidPace, InvalidPoint
from shaftshakes.lines import paces_of
from shaftshakes.lots import is_lot, lot_holds
from shaftshakes.orders import stirs
from shaftshakes.points import compare_points, enclosed, fraction_between, is_point
from shaftshakes.speeds import clear_speeds, compare_speed, critical_speeds, is_clear_speed, speed_of

ONE, NONE = (1, 1), (0, 1)
TWO = ((ONE, ONE), (NONE, ONE, NONE))
THREE = ((ONE,) * 3, (NONE, ONE, ONE, NONE))
HELD = ((ONE, ONE), (ONE, ONE, NONE))
BOXER = (TWO, ((0, 0, ONE), (1, 6, ONE)))
KNOTS = (HELD, ((0, 0, ONE),))
# Its paces are 1 and 4, both stirred by each order.
DOUBLE = (((ONE, ONE), (ONE, (3, 2), ONE)), ((0, 0, ONE),))
# All orders stir the swing with the pace 0, and none the other one.
SILENT = (TWO, ((0, 0, ONE), (1, 0, ONE)))
ALL = ((NONE, True, None, False),)
# Its paces are 3 - root 5, 3 + root 5 and four times so much: the second one and the last one.
FOUR_TIMES = line_of_paces(multiplied((4, -6, 1), (64, -24, 1)), multiplied((-2, 1), (-4, 1), (-10, 1)))


def speed(engine, order, index):
    """A point PACE / (order * order), by the tests' own means."""
    point = paces_of(engine[0])[index]
    if type(point[0]) is int:
        return told(Fraction(*point) / order ** 2)
    row = [number * order ** (2 * place) for place, number in enumerate(point[0])]
    return row, point[1]


def around(engine, order, index, width=10 ** 60):
    """Two fractions around a speed, very near to one another."""
    low, high = enclosed(paces_of(engine[0])[index], (1, width))
    return Fraction(*low) / order ** 2, Fraction(*high) / order ** 2


def moving(engine, most):
    """The pairs of all critical speeds, in any order."""
    paces = paces_of(engine[0])
    return [(order, index) for order in range(1, most + 1) for index in range(len(paces))
            if paces[index] != NONE and stirs(engine, order, index)]


class Of(unittest.TestCase):
    def test_ordinary(self):
        self.assertEqual([(2, 9), (2, 1), NONE, (1, 2)], [speed_of(BOXER, *each) for each in ((3, 1), (1, 1), (5, 0), (2, 1))])
        self.assertEqual((2, 9), speed_of(BOXER, -3, 1))
        self.assertEqual(told(Fraction(2, 10 ** 80)), speed_of(BOXER, 10 ** 40, 1))

    def test_silent_ones_too(self):
        self.assertIs(False, stirs(BOXER, 1, 0))
        self.assertEqual(NONE, speed_of(BOXER, 1, 0))
        self.assertEqual((1, 2), speed_of(SILENT, 2, 1))

    def test_knots(self):
        point = speed_of(KNOTS, 1, 1)
        self.assertIs(True, is_point(point))
        self.assertEqual(0, compare_points(((1, -3, 1), 1), point))
        self.assertEqual(0, compare_points(((1, -12, 16), 0), speed_of(KNOTS, 2, 0)))
        self.assertEqual(0, compare_points(((1, -12, 16), 1), speed_of(KNOTS, -2, 1)))

    def test_as_the_pace_tells(self):
        chance = random.Random(1301)
        for _ in range(40):
            engine = random_engine(chance)
            order, index = chance.choice([1, -1, 2, -7, 30, 10 ** 9]), chance.randrange(len(engine[0][0]))
            point = speed_of(engine, order, index)
            self.assertIs(True, is_point(point))
            low, high = around(engine, order, index)
            self.assertEqual([1, -1], [compare_points(point, told(low)), compare_points(point, told(high))])
            if type(paces_of(engine[0])[index][0]) is int:
                self.assertEqual(speed(engine, order, index), point)
            else:
                self.assertIs(tuple, type(point[0]))

    def test_far_orders_have_short_knots_where_there_are_such(self):
        # All four paces together would have numbers of 640 figures, two of them have some of 320.
        engine = (FOUR_TIMES, ((0, 0, ONE),))
        for index in range(4):
            point = speed_of(engine, 10 ** 80, index)
            self.assertLess(max(abs(number) for number in point[0]), 10 ** 400)
            self.assertIs(True, is_point(point))
            self.assertEqual(0, compare_speed(engine, -10 ** 80, index, point))

    def test_compared(self):
        self.assertEqual([-1, 0, 1, 1], [compare_speed(BOXER, 3, 1, point) for point in ((1, 4), (2, 9), (1, 5), (-9, 1))])
        self.assertEqual([0, -1], [compare_speed(BOXER, 3, 0, point) for point in (NONE, (1, 10 ** 90))])
        self.assertEqual([0, 1, -1], [compare_speed(KNOTS, 2, 0, point) for point in
                                      (((1, -12, 16), 0), ((-2, 0, 1), 0), ((-2, 0, 1), 1))])

    def test_compared_by_chance(self):
        chance = random.Random(1302)
        for _ in range(40):
            engine = random_engine(chance)
            order, index = chance.choice([1, -1, 2, -7, 30]), chance.randrange(len(engine[0][0]))
            other = speed_of(engine, chance.randint(1, 9), chance.randrange(len(engine[0][0])))
            found = compare_speed(engine, order, index, other)
            self.assertEqual(compare_points(speed_of(engine, order, index), other), found)
            pace = random_number(chance, 9)
            low, high = around(engine, order, index)
            found = compare_speed(engine, order, index, pace)
            self.assertEqual(found, (low > Fraction(*pace)) - (high < Fraction(*pace)))


class Critical(unittest.TestCase):
    def test_ordinary(self):
        self.assertEqual(((3, 1), (1, 1)), critical_speeds(BOXER, 3))
        self.assertEqual(((1, 1),), critical_speeds(BOXER, 1))
        self.assertEqual(((2, 0), (1, 0), (2, 1), (1, 1)), critical_speeds(KNOTS, 2))

    def test_the_same_by_several_orders(self):
        self.assertEqual((ONE, (4, 1)), paces_of(DOUBLE[0]))
        # 1 / 9, 1 / 4, 4 / 9, 1 and 1, 4
        self.assertEqual(((3, 0), (2, 0), (3, 1), (1, 0), (2, 1), (1, 1)), critical_speeds(DOUBLE, 3))
        self.assertEqual(((4, 0), (3, 0), (2, 0), (4, 1), (3, 1), (1, 0), (2, 1), (1, 1)), critical_speeds(DOUBLE, 4))

    def test_the_same_with_knots(self):
        engine = (FOUR_TIMES, ((0, 0, ONE),))
        self.assertEqual([0, 0], [compare_points(speed_of(engine, 2, index + 1), speed_of(engine, 1, index))
                                  for index in (0, 2)])
        self.assertEqual(((2, 0), (1, 0), (2, 1), (2, 2), (1, 1), (1, 2), (2, 3), (1, 3)), critical_speeds(engine, 2))
        self.assertEqual(7, len(clear_speeds(engine, 2)))

    def test_none(self):
        self.assertEqual((), critical_speeds(SILENT, 30))
        self.assertEqual((), critical_speeds((((ONE,), (NONE, NONE)), ((0, 0, ONE),)), 30))
        self.assertEqual(((30, 0), (29, 0)), critical_speeds((((ONE,), (NONE, ONE)), ((0, 0, ONE),)), 30)[:2])

    def test_by_chance(self):
        chance = random.Random(1303)
        for _ in range(25):
            engine = random_engine(chance, random_line(chance, chance.randint(1, 5)))
            most = chance.choice([1, 2, 5, 12, 14])
            found = critical_speeds(engine, most)
            self.assertEqual(sorted(moving(engine, most)), sorted(found))
            for first, second in zip(found, found[1:]):
                order = compare_speed(engine, *first, speed_of(engine, *second))
                self.assertLessEqual(order, 0)
                if order == 0:
                    self.assertLess(first, second)


class Clear(unittest.TestCase):
    def test_ordinary(self):
        self.assertEqual(((NONE, True, (2, 1), False), ((2, 1), False, None, False)), clear_speeds(BOXER, 1))
        self.assertEqual(((NONE, True, (2, 9), False), ((2, 9), False, (2, 1), False), ((2, 1), False, None, False)),
                         clear_speeds(BOXER, 4))
        # 1 / 4, 1 twice, 4
        self.assertEqual(((NONE, True, (1, 4), False), ((1, 4), False, ONE, False), (ONE, False, (4, 1), False),
                          ((4, 1), False, None, False)), clear_speeds(DOUBLE, 2))

    def test_none(self):
        self.assertEqual(ALL, clear_speeds(SILENT, 30))
        self.assertEqual(ALL, clear_speeds((((ONE,), (NONE, NONE)), ((0, 0, ONE),)), 7))

    def test_is_one_without_any(self):
        self.assertEqual([True, False], [is_clear_speed(BOXER, 3, low, ONE) for low in ((1, 4), (1, 5))])
        # Ends at critical speeds, just beside them, around all, and at 0.
        self.assertEqual([False, True, False, True, False, True, True],
                         [is_clear_speed(BOXER, 3, *span) for span in (
                             ((2, 9), (1, 4)), ((667, 3000), (1, 4)), ((1, 9), (2, 9)), ((1, 9), (1999, 9000)),
                             (NONE, (100, 1)), (NONE, (1, 9)), ((3, 1), (10 ** 30, 1)))])
        self.assertIs(True, is_clear_speed(SILENT, 30, NONE, (10 ** 9, 1)))
        self.assertIs(False, is_clear_speed(KNOTS, 1, (19, 50), (39, 100)))
        self.assertIs(True, is_clear_speed(KNOTS, 1, (39, 100), (13, 5)))

    def test_by_chance(self):
        chance = random.Random(1304)
        for _ in range(25):
            engine = random_engine(chance, random_line(chance, chance.randint(1, 4)))
            most = chance.choice([1, 2, 5, 12])
            lot = clear_speeds(engine, most)
            self.assertIs(True, is_lot(lot))
            critical = critical_speeds(engine, most)
            points = [speed_of(engine, *each) for each in critical]
            for point in points:
                self.assertIs(False, lot_holds(lot, point))
            different = [point for place, point in enumerate(points)
                         if place == 0 or compare_points(points[place - 1], point) != 0]
            self.assertEqual(len(different) + 1, len(lot))
            self.assertIs(True, lot_holds(lot, NONE))
            for first, second in zip([NONE] + different, different):
                between = fraction_between(first, second)
                self.assertIs(True, lot_holds(lot, between))
                self.assertIs(True, is_clear_speed(engine, most, between, fraction_between(between, second)))
                self.assertIs(False, is_clear_speed(engine, most, between, enclosed(second, (1, 9))[1]))
            for _ in range(3):
                low = Fraction(*random_number(chance, 9))
                high = low + Fraction(*random_number(chance, 9))
                self.assertEqual(not any(compare_points(point, told(low)) >= 0 >= compare_points(point, told(high))
                                         for point in points), is_clear_speed(engine, most, told(low), told(high)))


class WrongOnes(unittest.TestCase):
    def check(self, error, given, function, *arguments):
        with self.assertRaises(error) as caught:
            function(*arguments)
        self.assertIs(given, caught.exception.given)

    def test_each(self):
        for order in (0, None, True, False, "1", (1, 1)):
            self.check(InvalidOrder, order, speed_of, BOXER, order, 9)
            self.check(InvalidOrder, order, compare_speed, BOXER, order, 9, None)
        for index in (2, -1, None, True):
            self.check(InvalidIndex, index, speed_of, BOXER, 1, index)
            self.check(InvalidIndex, index, compare_speed, BOXER, -1, index, None)
        for point in (None, (2, 4), ((-4, 0, 1), 0), 1):
            self.check(InvalidPoint, point, compare_speed, BOXER, 1, 1, point)
        for most in (0, 31, -1, None, True, (1, 1), 10 ** 30):
            self.check(InvalidNumber, most, critical_speeds, BOXER, most)
            self.check(InvalidNumber, most, clear_speeds, BOXER, most)
            self.check(InvalidNumber, most, is_clear_speed, BOXER, most, None, None)
        for low in ((-1, 1), None, (2, 4)):
            self.check(InvalidPace, low, is_clear_speed, BOXER, 30, low, None)
        for high in ((-1, 1), None, (2, 4), NONE, ONE):
            self.check(InvalidPace, high, is_clear_speed, BOXER, 30, ONE, high)

    def test_engines_come_first(self):
        engine = (TWO, ())
        for function in (speed_of, compare_speed, critical_speeds, clear_speeds, is_clear_speed):
            self.check(InvalidEngine, engine, function, engine, *[None] * (function.__code__.co_argcount - 1))


if __name__ == "__main__":
    unittest.main()
