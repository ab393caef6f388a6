"""Readings: which lines agree with them, what amounts and slots they leave, where two lines part."""

import random
import unittest
from fractions import Fraction

import oracle
from chance import multiplied, random_line, random_number, random_slot, told
from shaftshakes.amounts import turning_amount, with_amount
from shaftshakes.backs import line_of_paces
from shaftshakes.changes import with_disc, with_shaft
from shaftshakes.errors import InvalidLine, InvalidReadings, InvalidSlot
from shaftshakes.lines import compare_swings, mirrored_line, slower_count
from shaftshakes.readings import agrees, amounts_left, common_stretch, parting_pace, slots_left

ONE, NONE = (1, 1), (0, 1)
PAIR = ((ONE, ONE), (ONE, ONE, ONE))
TWO = ((ONE, ONE), (NONE, ONE, NONE))
THREE = ((ONE, ONE, ONE), (NONE, ONE, ONE, NONE))
SHAFT, LOAD = ("shaft", 1), ("disc", 0)
ALL = (NONE, False, None, False)


def slots(line):
    return [("disc", i) for i in range(len(line[0]))] + [("shaft", i) for i in range(len(line[1]))]


def number(line, slot):
    return line[slot[0] == "shaft"][slot[1]]


def in_stretch(stretch, amount):
    low, has_low, high, has_high = stretch
    amount, low = Fraction(*amount), Fraction(*low)
    if amount < low or (amount == low and not has_low):
        return False
    return high is None or amount < Fraction(*high) or (amount == Fraction(*high) and has_high)


def is_stretch(stretch):
    low, has_low, high, has_high = stretch
    if type(has_low) is not bool or type(has_high) is not bool or low[0] < 0 or (low == NONE and has_low):
        return False
    if high is None:
        return not has_high
    return Fraction(*low) < Fraction(*high) or (low == high and has_low and has_high)


def readings_of(chance, line, many):
    """Readings that the line agrees with."""
    paces = [random_number(chance, 12) for _ in range(many)]
    return tuple((pace, slower_count(line, pace)) for pace in paces)


class Agrees(unittest.TestCase):
    def test_ordinary(self):
        self.assertIs(True, agrees(PAIR, ((ONE, 0), ((4, 1), 2))))
        self.assertIs(False, agrees(PAIR, ((ONE, 1),)))
        self.assertIs(False, agrees(PAIR, ((ONE, 0), ((4, 1), 1))))
        self.assertIs(False, agrees(PAIR, ((ONE, 1), ((4, 1), 2))))
        self.assertIs(True, agrees(PAIR, (((3, 1), 1), ((3, 1), 1), ((2, 1), 1))))

    def test_readings_that_no_line_agrees_with(self):
        self.assertIs(False, agrees(PAIR, ((ONE, 3),)))
        self.assertIs(False, agrees(PAIR, ((ONE, 10 ** 99),)))
        self.assertIs(False, agrees(PAIR, ((ONE, 0), (ONE, 1))))
        self.assertEqual((), slots_left(PAIR, ((ONE, 3),)))
        self.assertEqual((), slots_left(PAIR, ((ONE, 0), (ONE, 1))))
        self.assertEqual((), slots_left(PAIR, (((2, 1), 2), ((3, 1), 0))))

    def test_eight(self):
        eight = tuple((told(Fraction(k)), 0 if k == 1 else 1 if k < 4 else 2) for k in range(1, 9))
        self.assertIs(True, agrees(PAIR, eight))
        self.assertIs(False, agrees(PAIR, eight[:7] + (((8, 1), 1),)))


class Kinds(unittest.TestCase):
    def check(self, readings, index):
        for call in (lambda: agrees(PAIR, readings), lambda: slots_left(PAIR, readings),
                     lambda: amounts_left(PAIR, SHAFT, readings), lambda: amounts_left(PAIR, SHAFT, readings=readings)):
            with self.assertRaises(InvalidReadings) as caught:
                call()
            self.assertEqual(index, caught.exception.index)

    def test_no_tuple(self):
        for wrong in (None, 0, "12", [(ONE, 1)], {}, ((ONE, 1) for _ in range(1)), b"", True):
            self.check(wrong, None)

    def test_empty(self):
        self.check((), 0)

    def test_the_first_wrong_one(self):
        right = (ONE, 0)
        for wrong in ((NONE, 0), ((-1, 2), 0), ((2, 4), 0), (ONE, -1), (ONE, True), (ONE, False), (ONE, None), (ONE,),
                      (ONE, 0, 0), [ONE, 0], None, 5, "ab", ((-2, 0, 1), 0), (((-2, 0, 1), 1), 0), (0, ONE), (1, 0),
                      (ONE, (1, 1)), ((True, 1), 0), (ONE, "0")):
            self.check((wrong,), 0)
            self.check((right, wrong), 1)
            self.check((right, right, wrong, None, wrong), 2)
            self.check((right,) * 7 + (wrong,), 7)

    def test_nine(self):
        self.check(((ONE, 0),) * 9, 8)
        self.check(((ONE, 0),) * 8 + (None,), 8)
        self.check(((ONE, 0),) * 30, 8)
        self.check((None,) + ((ONE, 0),) * 8, 0)
        self.assertIs(True, agrees(PAIR, ((ONE, 0),) * 8))


class Left(unittest.TestCase):
    def test_ordinary(self):
        self.assertEqual((ONE, False, None, False), amounts_left(PAIR, LOAD, ((ONE, 1),)))
        self.assertIsNone(amounts_left(PAIR, SHAFT, ((ONE, 1),)))
        self.assertEqual(((LOAD, (ONE, False, None, False)), (("disc", 1), (ONE, False, None, False)),
                          (("shaft", 0), (NONE, False, ONE, False)), (("shaft", 2), (NONE, False, ONE, False))),
                         slots_left(PAIR, ((ONE, 1),)))

    def test_several_readings(self):
        # The end is 1 - 2 L + L L + 2 x (1 - L): slower than 2 below 1 / 2, slower than 3 below 1.
        self.assertEqual((NONE, False, (1, 2), False), amounts_left(PAIR, SHAFT, (((2, 1), 2),)))
        self.assertEqual(((1, 2), True, ONE, False), amounts_left(PAIR, SHAFT, (((2, 1), 1), ((3, 1), 2))))
        self.assertEqual(((1, 2), True, ONE, False), amounts_left(PAIR, SHAFT, (((3, 1), 2), ((2, 1), 1))))
        self.assertIsNone(amounts_left(PAIR, SHAFT, (((2, 1), 2), ((3, 1), 1))))
        self.assertEqual(ALL, amounts_left(PAIR, SHAFT, ((ONE, 0),)))
        # For a disc just above the one amount, up to the other one with it.
        self.assertEqual((ONE, False, (8, 5), True), amounts_left(PAIR, LOAD, ((ONE, 1), ((3, 4), 0))))

    def test_the_same_reading_twice(self):
        for many in (1, 2, 8):
            self.assertEqual(((1, 2), True, None, False), amounts_left(PAIR, SHAFT, (((2, 1), 1),) * many))

    def test_the_own_number_is_left_where_the_line_agrees(self):
        chance = random.Random(401)
        for _ in range(40):
            line = random_line(chance)
            readings = readings_of(chance, line, chance.randint(1, 8))
            self.assertIs(True, agrees(line, readings))
            left = dict(slots_left(line, readings))
            for slot in slots(line):
                if number(line, slot) != NONE:
                    self.assertIs(True, in_stretch(left[slot], number(line, slot)))

    def test_the_wrong_number_is_found(self):
        chance = random.Random(402)
        for _ in range(40):
            line = random_line(chance)
            slot = random_slot(chance, line)
            right = random_number(chance, 9)
            readings = readings_of(chance, with_amount(line, slot, right), chance.randint(1, 8))
            self.assertIs(True, in_stretch(amounts_left(line, slot, readings), right))
            self.assertEqual(amounts_left(line, slot, readings), dict(slots_left(line, readings))[slot])

    def test_for_all_amounts(self):
        chance = random.Random(403)
        kinds = set()
        for _ in range(80):
            line = random_line(chance, chance.randint(1, 5))
            slot = random_slot(chance, line)
            other = with_amount(line, random_slot(chance, line), random_number(chance, 9))
            readings = readings_of(chance, other, chance.randint(1, 3))
            stretch = amounts_left(line, slot, readings)
            kinds.add("none" if stretch is None else "all" if stretch == ALL else "some")
            self.assertTrue(stretch is None or is_stretch(stretch))
            amounts = [random_number(chance, 9), (1, 10 ** 20), (10 ** 20, 1)]
            for turning in [turning_amount(line, slot, pace) for pace, _ in readings]:
                if turning is not None:
                    near = Fraction(1, 10 ** 20) * Fraction(*turning)
                    amounts.extend([told(Fraction(*turning) + step) for step in (-near, 0, near)])
            for amount in amounts:
                changed = with_amount(line, slot, amount)
                expected = all(oracle.slower(changed, Fraction(*pace)) == count for pace, count in readings)
                self.assertEqual(expected, stretch is not None and in_stretch(stretch, amount))
        self.assertEqual({"none", "all", "some"}, kinds)

    def test_ends_that_belong_to_it_and_ends_that_do_not(self):
        line = ((ONE, ONE), (ONE, (2, 1), ONE))
        pace, other = (5, 1), (4, 1)
        found = turning_amount(line, ("shaft", 1), pace)
        self.assertEqual((2, 1), found)
        self.assertEqual((found, True, None, False), amounts_left(line, ("shaft", 1), ((pace, 1),)))
        self.assertEqual(((3, 2), True, found, False), amounts_left(line, ("shaft", 1), ((pace, 2), (other, 1))))


class Common(unittest.TestCase):
    def test_what_is_in_both_stretches(self):
        ends = [(0, 1), (1, 2), (1, 1)]
        stretches = [(low, has_low, high, has_high) for low in ends for high in ends + [None]
                     for has_low in (True, False) for has_high in (True, False)]
        stretches = [stretch for stretch in stretches if is_stretch(stretch)]
        self.assertEqual(15, len(stretches))
        amounts = [told(Fraction(k, 8)) for k in range(1, 12)]
        for first in stretches:
            for second in stretches:
                both = common_stretch(first, second)
                expected = [each for each in amounts if in_stretch(first, each) and in_stretch(second, each)]
                self.assertEqual(expected, [each for each in amounts if both is not None and in_stretch(both, each)])
                self.assertEqual(bool(expected), both is not None)
                self.assertTrue(both is None or is_stretch(both))


class Parting(unittest.TestCase):
    def check(self, line, other):
        for first, second in ((line, other), (other, line)):
            pace = parting_pace(first, second)
            self.assertGreater(pace[0], 0)
            self.assertNotEqual(oracle.slower(first, Fraction(*pace)), oracle.slower(second, Fraction(*pace)))

    def test_the_same_paces(self):
        self.assertIsNone(parting_pace(PAIR, PAIR))
        self.assertIsNone(parting_pace(THREE, (((2, 1),) * 3, (NONE, (2, 1), (2, 1), NONE))))
        chance = random.Random(404)
        for _ in range(20):
            line = random_line(chance)
            self.assertIsNone(parting_pace(line, mirrored_line(line)))

    def test_ordinary(self):
        self.check(PAIR, TWO)
        self.check(THREE, with_disc(THREE, 1, (2, 1)))
        self.check(TWO, with_shaft(TWO, 0, (1, 10 ** 30)))
        self.check(TWO, with_disc(TWO, 0, (10 ** 40 + 1, 10 ** 40)))

    def test_the_same_as_far_as_the_shorter_line_goes(self):
        free = ((ONE,), (NONE, NONE))
        self.check(free, TWO)
        self.check(free, THREE)
        self.check(((ONE,), (ONE, NONE)), PAIR)
        # 0, 1, 3 and 0, 1: two discs of 1 and 1 with the shaft 1 / 2.
        self.check(THREE, ((ONE, ONE), (NONE, (1, 2), NONE)))
        held = ((ONE, ONE), (ONE, ONE, NONE))
        # Three discs, two of whose paces are those of held, which are no fractions, and one is 10.
        longer = line_of_paces(multiplied((1, -3, 1), (-10, 1)), (5, -6, 1))
        self.check(held, longer)
        self.assertEqual([0, 0], [compare_swings(held, index, longer, index) for index in (0, 1)])

    def test_by_chance(self):
        chance = random.Random(405)
        for _ in range(40):
            line, other = random_line(chance), random_line(chance)
            pace = parting_pace(line, other)
            if pace is None:
                for _ in range(4):
                    at = Fraction(*random_number(chance, 9))
                    self.assertEqual(oracle.slower(line, at), oracle.slower(other, at))
            else:
                self.check(line, other)


class WrongOnes(unittest.TestCase):
    def test_in_the_order_of_the_signature(self):
        self.assertRaises(InvalidLine, agrees, None, None)
        self.assertRaises(InvalidLine, amounts_left, None, None, None)
        self.assertRaises(InvalidSlot, amounts_left, PAIR, ("disc", 2), None)
        self.assertRaises(InvalidReadings, amounts_left, PAIR, ("disc", 1), None)
        self.assertRaises(InvalidLine, slots_left, (PAIR,), ())
        with self.assertRaises(InvalidLine) as caught:
            parting_pace(PAIR, (PAIR,))
        self.assertEqual((PAIR,), caught.exception.given)


if __name__ == "__main__":
    unittest.main()
