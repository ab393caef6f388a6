"""Boxes: what is so for all lines between a slow and a fast one."""

import random
import unittest
from fractions import Fraction

import oracle
from chance import random_box, random_fraction, random_line, random_line_of, random_number, told
from shaftshakes.boxes import box_counts, box_range, clashing_line, clashing_orders, is_box, is_clear, is_in_box
from shaftshakes.boxes import quickening_slots, slowing_slots
from shaftshakes.changes import with_disc, with_shaft
from shaftshakes.errors import InvalidBox, InvalidIndex, InvalidLine, InvalidNumber, InvalidPace
from shaftshakes.lines import compare_pace, compare_swings, is_line, paces_of
from shaftshakes.points import compare_points, enclosed

ONE, NONE = (1, 1), (0, 1)
TWO = ((ONE, ONE), (NONE, ONE, NONE))
THREE = ((ONE, ONE, ONE), (NONE, ONE, ONE, NONE))
HEAVY = with_disc(THREE, 1, (2, 1))
BOX = (HEAVY, THREE)
# The inertia of the one disc is 1 or 2, the stiffness 4: paces from 2 up to 4.
SINGLE = ((((2, 1),), (NONE, (4, 1))), ((ONE,), (NONE, (4, 1))))


def slots(line):
    return [("disc", i) for i in range(len(line[0]))] + [("shaft", i) for i in range(len(line[1]))]


def number(line, slot):
    return line[slot[0] == "shaft"][slot[1]]


def put(line, slot, value):
    rows = [list(row) for row in line]
    rows[slot[0] == "shaft"][slot[1]] = value
    return tuple(tuple(row) for row in rows)


def random_span(chance):
    low = Fraction(chance.randint(0, 12), chance.randint(1, 6))
    return told(low), told(low + Fraction(1, chance.choice([1, 2, 10, 100, 10 ** 9])))


def has_pace(line, low, high):
    return oracle.not_faster(line, Fraction(*high)) > oracle.slower(line, Fraction(*low))


class Kinds(unittest.TestCase):
    def test_boxes(self):
        for box in (BOX, (THREE, THREE), (HEAVY, HEAVY), SINGLE, (TWO, with_shaft(TWO, 0, ONE)),
                    (with_shaft(THREE, 1, (1, 2)), THREE), (TWO, with_shaft(TWO, 2, (1, 10 ** 300)))):
            self.assertIs(True, is_box(box))

    def test_no_boxes(self):
        crossed = (with_disc(THREE, 0, (2, 1)), with_disc(THREE, 1, (2, 1)))
        for value in ((THREE, HEAVY), (with_shaft(TWO, 0, ONE), TWO), (TWO, THREE), (THREE, TWO), crossed, THREE,
                      (THREE,), (THREE, THREE, THREE), [THREE, THREE], (), None, 5, "box", (THREE, None),
                      (None, THREE), (THREE[0], THREE[1]), (list(THREE), THREE), (THREE, list(THREE)),
                      (with_disc(THREE, 1, (10 ** 300 - 1, 10 ** 300)), THREE),
                      (THREE, with_shaft(THREE, 1, (10 ** 300 - 1, 10 ** 300)))):
            self.assertIs(False, is_box(value))

    def test_lines_of_a_box(self):
        for line in (HEAVY, THREE, with_disc(THREE, 1, (3, 2)), with_disc(THREE, 1, (10 ** 99 + 1, 10 ** 99))):
            self.assertIs(True, is_in_box(BOX, line))
        for line in (TWO, SINGLE[0], with_disc(THREE, 1, (5, 2)), with_disc(THREE, 1, (1, 2)),
                     with_disc(THREE, 0, (3, 2)), with_disc(THREE, 1, (10 ** 99 - 1, 10 ** 99)),
                     with_shaft(THREE, 0, ONE), with_shaft(HEAVY, 1, (1, 2)), with_shaft(HEAVY, 2, (2, 1))):
            self.assertIs(False, is_in_box(BOX, line))
        self.assertIs(True, is_in_box((THREE, THREE), THREE))
        self.assertIs(False, is_in_box((THREE, THREE), HEAVY))

    def test_random_ones(self):
        chance = random.Random(101)
        for _ in range(60):
            box = random_box(chance)
            self.assertIs(True, is_box(box))
            self.assertEqual(box[0] == box[1], is_box(box[::-1]))
            line = random_line_of(chance, box)
            self.assertIs(True, is_in_box(box, line))
            slot = chance.choice(slots(line))
            high = max(Fraction(*number(each, slot)) for each in box)
            self.assertIs(False, is_in_box(box, put(line, slot, told(high + Fraction(1, 10 ** 20)))))


class Ranges(unittest.TestCase):
    def test_ordinary(self):
        self.assertEqual([(NONE, NONE), (ONE, ONE), ((2, 1), (3, 1))], [box_range(BOX, index) for index in range(3)])
        self.assertEqual(((2, 1), (4, 1)), box_range(SINGLE, 0))

    def test_counts(self):
        self.assertEqual([(0, 0), (1, 1), (1, 1), (2, 2), (2, 2), (2, 3), (2, 3), (3, 3)],
                         [box_counts(BOX, pace) for pace in (NONE, (1, 2), ONE, (3, 2), (2, 1), (5, 2), (3, 1), (4, 1))])
        self.assertEqual([(0, 0), (0, 1), (0, 1), (1, 1)],
                         [box_counts(SINGLE, pace) for pace in ((2, 1), (3, 1), (4, 1), (401, 100))])

    def test_one_line(self):
        for index, point in enumerate(paces_of(HEAVY)):
            self.assertEqual((point, point), box_range((HEAVY, HEAVY), index))
            self.assertEqual((index, index), box_counts((HEAVY, HEAVY), point))

    def test_all_lines_are_between(self):
        chance = random.Random(102)
        for _ in range(40):
            box = random_box(chance)
            size = len(box[0][0])
            index = chance.randrange(size)
            low, high = box_range(box, index)
            self.assertEqual(0, compare_pace(box[0], index, low))
            self.assertEqual(0, compare_pace(box[1], index, high))
            pace = told(abs(Fraction(*random_fraction(chance))))
            least, most = box_counts(box, pace)
            self.assertEqual((oracle.slower(box[1], Fraction(*pace)), oracle.slower(box[0], Fraction(*pace))),
                             (least, most))
            for _ in range(4):
                line = random_line_of(chance, box)
                self.assertLessEqual(compare_points(low, paces_of(line)[index]), 0)
                self.assertGreaterEqual(compare_points(high, paces_of(line)[index]), 0)
                self.assertTrue(least <= oracle.slower(line, Fraction(*pace)) <= most)


class Clashes(unittest.TestCase):
    def check(self, box, low, high, clear):
        self.assertIs(clear, is_clear(box, low, high))
        line = clashing_line(box, low, high)
        if clear:
            self.assertIsNone(line)
        else:
            self.assertTrue(is_line(line))
            self.assertIs(True, is_in_box(box, line))
            self.assertTrue(has_pace(line, low, high))

    def test_ordinary(self):
        self.check(BOX, (1, 2), (3, 4), True)
        self.check(BOX, (5, 2), (11, 4), False)
        self.check(BOX, (3, 2), (7, 4), True)
        self.check(BOX, (4, 1), (5, 1), True)
        self.check(BOX, (1, 2), (3, 2), False)
        self.check(BOX, (3, 2), (5, 2), False)
        self.check(BOX, (5, 2), (4, 1), False)

    def test_ends_that_are_paces_of_the_ends_of_the_box(self):
        self.check(BOX, (3, 2), (2, 1), False)
        self.check(BOX, (3, 1), (4, 1), False)
        self.check(BOX, ONE, (3, 2), False)
        self.check(BOX, (1, 2), ONE, False)
        self.check(BOX, NONE, (1, 2), False)
        self.check(SINGLE, NONE, (2, 1), False)
        self.check(SINGLE, (4, 1), (5, 1), False)
        self.check(SINGLE, (2, 1), (4, 1), False)
        self.check((THREE, THREE), (2, 1), (3, 1), False)

    def test_between_two_neighbouring_ranges(self):
        tiny = Fraction(1, 10 ** 60)
        self.check(BOX, told(1 + tiny), told(2 - tiny), True)
        self.check(BOX, told(tiny), told(1 - tiny), True)
        self.check(BOX, told(3 + tiny), (10 ** 60, 1), True)
        self.check(SINGLE, NONE, told(2 - tiny), True)
        self.check(SINGLE, told(4 + tiny), (5, 1), True)
        self.check((THREE, THREE), told(1 + tiny), told(3 - tiny), True)

    def test_stretches_that_are_very_short(self):
        for start in (Fraction(5, 2), Fraction(201, 100), Fraction(2) + Fraction(1, 10 ** 50)):
            self.check(BOX, told(start), told(start + Fraction(1, 10 ** 80)), False)

    def test_ends_that_are_no_fractions(self):
        held = ((ONE, ONE), (ONE, ONE, NONE))
        box = (with_disc(held, 0, (2, 1)), held)
        low, high = box_range(box, 1)
        below, _ = enclosed(low, (1, 10 ** 30))
        _, above = enclosed(high, (1, 10 ** 30))
        self.check(box, below, above, False)
        self.check(box, above, told(Fraction(*above) + 1), True)
        self.check(box, told((Fraction(*below) + Fraction(*above)) / 2), above, False)

    def test_an_end_shaft_that_is_free_in_the_slow_line_alone(self):
        box = (TWO, with_shaft(TWO, 0, ONE))
        self.check(box, (1, 10), (1, 9), False)
        self.check(box, (2, 5), (1, 2), True)
        self.check(box, (9, 4), (5, 2), False)
        self.check(box, NONE, (1, 10 ** 9), False)

    def test_by_chance(self):
        chance = random.Random(103)
        told_clear = 0
        for _ in range(150):
            box = random_box(chance)
            low, high = random_span(chance)
            clear = is_clear(box, low, high)
            told_clear += clear
            self.check(box, low, high, clear)
            if clear:
                for _ in range(4):
                    self.assertFalse(has_pace(random_line_of(chance, box), low, high))
        self.assertTrue(20 < told_clear < 130, told_clear)


class Orders(unittest.TestCase):
    def test_ordinary(self):
        self.assertEqual((2, 3), clashing_orders(BOX, 3, (1, 4), (1, 3)))
        self.assertEqual((2,), clashing_orders(BOX, 2, (1, 4), (1, 3)))
        self.assertEqual((), clashing_orders(BOX, 1, (1, 4), (1, 3)))
        self.assertEqual((), clashing_orders(BOX, 30, (4, 1), (5, 1)))

    def test_the_pace_nought_is_that_of_all_orders(self):
        self.assertEqual(tuple(range(1, 31)), clashing_orders(BOX, 30, NONE, (1, 10 ** 9)))

    def test_ends_belong_to_it(self):
        self.assertEqual((2,), clashing_orders(SINGLE, 9, (1, 1), (3, 2)))
        self.assertEqual((1, 2), clashing_orders(SINGLE, 9, (1, 2), (2, 1)))
        self.assertEqual((30,), clashing_orders(SINGLE, 30, (1, 450), (1, 421)))
        self.assertEqual((29, 30), clashing_orders(SINGLE, 30, (1, 450), (2, 841)))
        self.assertEqual((), clashing_orders(SINGLE, 29, (1, 450), (1, 421)))

    def test_by_chance(self):
        chance = random.Random(104)
        for _ in range(30):
            box = random_box(chance, chance.randint(1, 4))
            low, high = random_span(chance)
            most = chance.randint(1, 8)
            expected = []
            for order in range(1, most + 1):
                square = order * order
                if not is_clear(box, told(Fraction(*low) * square), told(Fraction(*high) * square)):
                    expected.append(order)
            self.assertEqual(tuple(expected), clashing_orders(box, most, low, high))

    def test_most(self):
        for most in (0, -1, 31, True, None, (1, 1), "3"):
            with self.assertRaises(InvalidNumber) as caught:
                clashing_orders(BOX, most, NONE, NONE)
            self.assertIs(most, caught.exception.given)


class Slots(unittest.TestCase):
    def test_ordinary(self):
        # The middle inertia alone is not known; swing 2 is then from 2 up to 3.
        self.assertEqual((("disc", 1),), slowing_slots(BOX, 2, (5, 2)))
        self.assertEqual((("disc", 1),), quickening_slots(BOX, 2, (5, 2)))
        self.assertEqual((("disc", 1),), quickening_slots(BOX, 2, (3, 1)))
        self.assertEqual((), slowing_slots(BOX, 2, (2, 1)))
        self.assertEqual((("disc", 1),), slowing_slots(BOX, 2, told(2 + Fraction(1, 10 ** 50))))

    def test_all_slots_where_it_is_so_already(self):
        everyone = tuple(slots(THREE))
        self.assertEqual(everyone, slowing_slots(BOX, 2, (4, 1)))
        self.assertEqual(everyone, slowing_slots(BOX, 1, (2, 1)))
        self.assertEqual((), slowing_slots(BOX, 1, ONE))
        self.assertEqual(everyone, quickening_slots(BOX, 1, ONE))
        self.assertEqual(everyone, quickening_slots(BOX, 2, (2, 1)))
        self.assertEqual((), quickening_slots(BOX, 2, (4, 1)))
        self.assertEqual(everyone, quickening_slots((THREE, THREE), 2, (3, 1)))
        self.assertEqual((), slowing_slots((THREE, THREE), 2, (3, 1)))

    def test_nothing_is_slower_than_nought(self):
        for index in range(3):
            self.assertEqual((), slowing_slots(BOX, index, NONE))
            self.assertEqual(tuple(slots(THREE)), quickening_slots(BOX, index, NONE))

    def test_end_shafts(self):
        box = (TWO, with_shaft(TWO, 0, ONE))
        self.assertEqual((("shaft", 0),), slowing_slots(box, 0, (1, 10 ** 9)))
        self.assertEqual((("shaft", 0),), quickening_slots(box, 0, (1, 10 ** 9)))

    def test_by_chance(self):
        chance = random.Random(105)
        many = 0
        for _ in range(60):
            box = random_box(chance, chance.randint(1, 5))
            slow, fast = box
            index, pace = chance.randrange(len(slow[0])), random_number(chance, 8)
            slowing, quickening = slowing_slots(box, index, pace), quickening_slots(box, index, pace)
            many += len(slowing) + len(quickening)
            for slot in slots(slow):
                for name, told_slots in (("slow", slowing), ("fast", quickening)):
                    value = number(slow if name == "slow" else fast, slot)
                    left = (put(slow, slot, value), put(fast, slot, value))
                    lines = [random_line_of(chance, left) for _ in range(3)] + list(left)
                    slower = [oracle.slower(line, Fraction(*pace)) > index for line in lines]
                    holds = all(slower) if name == "slow" else not any(slower)
                    self.assertEqual(slot in told_slots, holds)
            for row in (slowing, quickening):
                self.assertEqual([slot for slot in slots(slow) if slot in row], list(row))
        self.assertGreater(many, 50)


class WrongOnes(unittest.TestCase):
    def test_high_that_is_not_above_low(self):
        for function in (is_clear, clashing_line, lambda box, low, high: clashing_orders(box, 2, low, high)):
            for high in (ONE, NONE, (1, 2), (-1, 2), None):
                with self.assertRaises(InvalidPace) as caught:
                    function(BOX, ONE, high)
                self.assertIs(high, caught.exception.given)
            with self.assertRaises(InvalidPace) as caught:
                function(BOX, (-1, 2), (-1, 3))
            self.assertEqual((-1, 2), caught.exception.given)

    def test_in_the_order_of_the_signature(self):
        wrong = (THREE, HEAVY)
        self.assertRaises(InvalidBox, is_in_box, wrong, None)
        self.assertRaises(InvalidLine, is_in_box, BOX, BOX)
        self.assertRaises(InvalidBox, box_range, wrong, 9)
        self.assertRaises(InvalidIndex, box_range, BOX, 3)
        self.assertRaises(InvalidBox, clashing_orders, wrong, 0, None, None)
        self.assertRaises(InvalidNumber, clashing_orders, BOX, 0, None, None)
        self.assertRaises(InvalidPace, clashing_orders, BOX, 1, None, None)
        self.assertRaises(InvalidIndex, slowing_slots, BOX, True, None)
        self.assertRaises(InvalidPace, quickening_slots, BOX, 0, (-1, 1))
        with self.assertRaises(InvalidBox) as caught:
            box_counts(wrong, NONE)
        self.assertIs(wrong, caught.exception.given)


class WholeBoxes(unittest.TestCase):
    def test_each_pace_between_is_taken(self):
        chance = random.Random(106)
        for _ in range(40):
            box = random_box(chance)
            index = chance.randrange(len(box[0][0]))
            if compare_swings(box[0], index, box[1], index) == 0:
                continue
            low, high = [Fraction(*enclosed(point, (1, 10 ** 6))[0]) for point in box_range(box, index)]
            pace = max(Fraction(0), low + (high - low) * Fraction(chance.randint(1, 9), 10))
            line = clashing_line(box, told(pace), told(pace + Fraction(1, 10 ** 6)))
            self.assertTrue(is_in_box(box, line))
            self.assertTrue(has_pace(line, told(pace), told(pace + Fraction(1, 10 ** 6))))


if __name__ == "__main__":
    unittest.main()
