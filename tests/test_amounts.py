"""Amounts: what one inertia or stiffness does to all swings, for all its amounts."""

import random
import unittest
from fractions import Fraction
from math import gcd

import oracle
from chance import random_fraction, random_line, random_number, random_slot, told
from shaftshakes.amounts import amounts_slower, count_with, counts_by_amount, pace_limits, slot_polynomials
from shaftshakes.amounts import turning_amount, with_amount
from shaftshakes.changes import held_parts
from shaftshakes.errors import InvalidAmount, InvalidIndex, InvalidLine, InvalidPace, InvalidSlot
from shaftshakes.lines import compare_pace, paces_of, run_of
from shaftshakes.points import compare_points, enclosed, fraction_between, sign_at

ONE, NONE = (1, 1), (0, 1)
PAIR = ((ONE, ONE), (ONE, ONE, ONE))
TWO = ((ONE, ONE), (NONE, ONE, NONE))
THREE = ((ONE, ONE, ONE), (NONE, ONE, ONE, NONE))
FREE = (((3, 2),), (NONE, NONE))
SINGLE = (((2, 1),), (NONE, (4, 1)))
SHAFT, LOAD = ("shaft", 1), ("disc", 0)
ALL = (NONE, False, None, False)


def slots(line):
    return [("disc", i) for i in range(len(line[0]))] + [("shaft", i) for i in range(len(line[1]))]


def polynomial_with(pair, amount):
    """A + x B, thinned, its constant numbers first."""
    size = max(len(pair[0]), len(pair[1]))
    rows = [list(row) + [0] * (size - len(row)) for row in pair]
    row = [one * amount[1] + two * amount[0] for one, two in zip(*rows)]
    while row and row[-1] == 0:
        row.pop()
    shared = gcd(*row)
    return tuple(number // shared for number in row)


def in_stretch(stretch, amount):
    low, has_low, high, has_high = stretch
    amount, low = Fraction(*amount), Fraction(*low)
    if amount < low or (amount == low and not has_low):
        return False
    return high is None or amount < Fraction(*high) or (amount == Fraction(*high) and has_high)


def random_pace(chance):
    return told(abs(Fraction(*random_fraction(chance))))


def some_amounts(chance, turning):
    """Amounts of chance, and near a turning one."""
    amounts = [random_number(chance, 9), (1, 10 ** 30), (10 ** 30, 1)]
    if turning is not None:
        near = Fraction(*turning) / 10 ** 30
        amounts.extend([turning, told(Fraction(*turning) - near), told(Fraction(*turning) + near)])
    return amounts


class SlotPolynomials(unittest.TestCase):
    def test_ordinary(self):
        self.assertEqual(((1, -2, 1), (2, -2)), slot_polynomials(PAIR, SHAFT))
        self.assertEqual(((3, -2), (0, -2, 1)), slot_polynomials(PAIR, LOAD))

    def test_end_shafts(self):
        # 1 + x - L, and 1 for the other disc with the inner shaft as one.
        self.assertEqual(((1, -3, 1), (2, -1)), slot_polynomials(PAIR, ("shaft", 0)))
        self.assertEqual(((1, -3, 1), (2, -1)), slot_polynomials(PAIR, ("shaft", 2)))
        self.assertEqual(((0, -2, 1), (1, -1)), slot_polynomials(TWO, ("shaft", 0)))
        self.assertEqual(((0, -2, 1), (1, -1)), slot_polynomials(TWO, ("shaft", 2)))

    def test_one_disc(self):
        self.assertEqual(((), (0, -1)), slot_polynomials(FREE, ("disc", 0)))
        self.assertEqual(((4,), (0, -1)), slot_polynomials(SINGLE, ("disc", 0)))
        self.assertEqual(((4, -2), (1,)), slot_polynomials(SINGLE, ("shaft", 0)))
        self.assertEqual(((0, -2), (1,)), slot_polynomials(SINGLE, ("shaft", 1)))

    def test_together_they_are_the_end_with_the_amount(self):
        chance = random.Random(301)
        for _ in range(80):
            line = random_line(chance)
            for slot in slots(line):
                pair = slot_polynomials(line, slot)
                self.assertEqual(1, gcd(*pair[0], *pair[1]))
                for _ in range(2):
                    amount = random_number(chance, 9)
                    self.assertEqual(run_of(with_amount(line, slot, amount))[-1], polynomial_with(pair, amount))

    def test_the_number_in_the_slot_does_not_count(self):
        chance = random.Random(302)
        for _ in range(30):
            line = random_line(chance)
            slot = random_slot(chance, line)
            other = with_amount(line, slot, random_number(chance, 30))
            self.assertEqual(slot_polynomials(line, slot), slot_polynomials(other, slot))

    def test_what_they_belong_to(self):
        chance = random.Random(303)
        for _ in range(40):
            line = random_line(chance)
            disc = chance.randrange(len(line[0]))
            held = slot_polynomials(line, ("disc", disc))[1]
            self.assertEqual(0, sign_at(held, NONE))
            for part in held_parts(line, disc):
                for point in paces_of(part):
                    self.assertEqual(0, sign_at(held, point))
            if len(line[0]) > 1:
                shaft = chance.randrange(1, len(line[0]))
                gone = slot_polynomials(line, ("shaft", shaft))[0]
                for part in ((line[0][:shaft], line[1][:shaft] + (NONE,)), (line[0][shaft:], (NONE,) + line[1][shaft + 1:])):
                    for point in paces_of(part):
                        self.assertEqual(0, sign_at(gone, point))
                first, second = line[0][shaft - 1:shaft + 1]
                both = told(Fraction(*first) + Fraction(*second))
                one = (line[0][:shaft - 1] + (both,) + line[0][shaft + 1:], line[1][:shaft] + line[1][shaft + 1:])
                for point in paces_of(one):
                    self.assertEqual(0, sign_at(slot_polynomials(line, ("shaft", shaft))[1], point))


class Lines(unittest.TestCase):
    def test_ordinary(self):
        self.assertEqual((((5, 1), ONE), (ONE, ONE, ONE)), with_amount(PAIR, LOAD, (5, 1)))
        self.assertEqual(((ONE, ONE), (ONE, (5, 2), ONE)), with_amount(PAIR, SHAFT, (5, 2)))
        self.assertEqual(((ONE, ONE), (NONE, ONE, (1, 7))), with_amount(TWO, ("shaft", 2), (1, 7)))

    def test_nought_is_no_amount_in_each_slot(self):
        for slot in slots(TWO):
            for amount in (NONE, (-1, 2)):
                with self.assertRaises(InvalidAmount) as caught:
                    with_amount(TWO, slot, amount)
                self.assertIs(amount, caught.exception.given)

    def test_counts(self):
        self.assertEqual([1, 0, 0, 1], [count_with(PAIR, LOAD, (5, 1), ONE), count_with(PAIR, LOAD, ONE, ONE),
                                        count_with(PAIR, SHAFT, (9, 1), ONE), count_with(PAIR, SHAFT, (1, 2), (2, 1))])
        chance = random.Random(304)
        for _ in range(30):
            line, pace, amount = random_line(chance), random_pace(chance), random_number(chance, 9)
            slot = random_slot(chance, line)
            self.assertEqual(oracle.slower(with_amount(line, slot, amount), Fraction(*pace)),
                             count_with(line, slot, amount, pace))


class Turning(unittest.TestCase):
    def test_ordinary(self):
        self.assertEqual([(1, 2), None, ONE, None],
                         [turning_amount(PAIR, SHAFT, (2, 1)), turning_amount(PAIR, SHAFT, ONE),
                          turning_amount(PAIR, LOAD, (3, 1)), turning_amount(PAIR, LOAD, (2, 1))])

    def test_none_that_is_not_above_nought(self):
        # A / B is above 0 at 1 / 2 for the shaft; at the pace 0 of a free line nothing changes.
        self.assertIsNone(turning_amount(PAIR, SHAFT, (1, 2)))
        self.assertIsNone(turning_amount(PAIR, LOAD, (7, 4)))
        self.assertIsNone(turning_amount(TWO, ("shaft", 0), NONE))
        self.assertIsNone(turning_amount(FREE, ("disc", 0), ONE))
        self.assertIsNone(turning_amount(FREE, ("disc", 0), NONE))

    def test_no_pace_at_nought(self):
        for slot in slots(PAIR):
            self.assertIsNone(turning_amount(PAIR, slot, NONE))

    def test_where_the_pace_is_that_of_a_swing_with_all_amounts(self):
        # The middle disc rests, and the shaft is untwisted, at the pace 1.
        self.assertIsNone(turning_amount(THREE, ("disc", 1), ONE))
        self.assertIsNone(turning_amount(PAIR, SHAFT, ONE))
        for amount in (ONE, (1, 10 ** 20), (10 ** 20, 1)):
            self.assertEqual(0, compare_pace(with_amount(THREE, ("disc", 1), amount), 1, ONE))

    def test_the_pace_is_that_of_a_swing(self):
        chance = random.Random(305)
        found = 0
        for _ in range(80):
            line, pace = random_line(chance), random_pace(chance)
            slot = random_slot(chance, line)
            amount = turning_amount(line, slot, pace)
            rows = slot_polynomials(line, slot)
            if amount is None:
                first, second = [oracle.value(row, Fraction(*pace)) for row in rows]
                self.assertTrue(second == 0 or -first / second <= 0)
            else:
                found += 1
                self.assertGreater(amount[0], 0)
                self.assertEqual(1, oracle.squares(oracle.table(with_amount(line, slot, amount), Fraction(*pace)))[1])
        self.assertGreater(found, 15)


class CountsByAmount(unittest.TestCase):
    def test_ordinary(self):
        self.assertEqual((((NONE, False, (1, 2), False), 2), (((1, 2), True, None, False), 1)),
                         counts_by_amount(PAIR, SHAFT, (2, 1)))
        self.assertEqual((((NONE, False, ONE, True), 1), ((ONE, False, None, False), 2)),
                         counts_by_amount(PAIR, LOAD, (3, 1)))
        self.assertEqual(((ALL, 0),), counts_by_amount(PAIR, SHAFT, ONE))
        self.assertEqual(((ALL, 0),), counts_by_amount(FREE, ("disc", 0), NONE))
        self.assertEqual(((ALL, 1),), counts_by_amount(FREE, ("disc", 0), ONE))
        self.assertEqual((((NONE, False, ONE, False), 1), ((ONE, True, None, False), 0)),
                         counts_by_amount(FREE, ("shaft", 1), (2, 3)))

    def test_where_b_is_nought(self):
        self.assertEqual(((ALL, 1),), counts_by_amount(THREE, ("disc", 1), ONE))
        self.assertEqual(((ALL, 0),), counts_by_amount(TWO, ("shaft", 0), NONE))

    def test_for_all_amounts(self):
        chance = random.Random(306)
        lengths = set()
        for _ in range(80):
            line, pace = random_line(chance), random_pace(chance)
            slot = random_slot(chance, line)
            pieces = counts_by_amount(line, slot, pace)
            lengths.add((slot[0], len(pieces)))
            for amount in some_amounts(chance, turning_amount(line, slot, pace)):
                counts = [count for stretch, count in pieces if in_stretch(stretch, amount)]
                expected = oracle.slower(with_amount(line, slot, amount), Fraction(*pace))
                self.assertEqual([expected], counts)
        self.assertEqual({("disc", 1), ("disc", 2), ("shaft", 1), ("shaft", 2)}, lengths)


class Limits(unittest.TestCase):
    def test_ordinary(self):
        self.assertEqual(((ONE, ONE), (ONE, None)), pace_limits(PAIR, SHAFT))
        self.assertEqual(((NONE, (3, 2)), ((2, 1), None)), pace_limits(PAIR, LOAD))

    def test_one_disc(self):
        self.assertEqual(((NONE, NONE),), pace_limits(FREE, ("disc", 0)))
        self.assertEqual(((NONE, None),), pace_limits(SINGLE, ("disc", 0)))
        self.assertEqual((((2, 1), None),), pace_limits(SINGLE, ("shaft", 0)))
        self.assertEqual(((NONE, None),), pace_limits(SINGLE, ("shaft", 1)))
        self.assertEqual(((NONE, None),), pace_limits(FREE, ("shaft", 0)))

    def test_limits_that_are_one_number(self):
        self.assertEqual(((NONE, NONE), (ONE, ONE), (ONE, None)), pace_limits(THREE, ("disc", 1)))

    def test_shaft_gone(self):
        # Without shaft 1 a lone disc of the pace 0 and two of the paces 0 and 2; with one disc of both 0 and 3 / 2.
        self.assertEqual(((NONE, NONE), (NONE, (3, 2)), ((2, 1), None)), pace_limits(THREE, ("shaft", 1)))

    def check_between(self, line, slot, amount, limits):
        for index, point in enumerate(paces_of(with_amount(line, slot, amount))):
            lower, upper = limits[index]
            if upper is not None and compare_points(lower, upper) == 0:
                self.assertEqual(0, compare_points(lower, point))
            else:
                self.assertEqual(-1, compare_points(lower, point))
                self.assertTrue(upper is None or compare_points(point, upper) < 0)

    def test_all_paces_are_between(self):
        chance = random.Random(307)
        for _ in range(40):
            line = random_line(chance)
            slot = random_slot(chance, line)
            limits = pace_limits(line, slot)
            self.assertEqual(len(line[0]), len(limits))
            ends = [index for index, pair in enumerate(limits) if pair[1] is None]
            self.assertEqual([] if slot[0] == "disc" and len(line[0]) == 1 and line[1] == (NONE, NONE)
                             else [len(line[0]) - 1], ends)
            for amount in (random_number(chance, 9), (1, 10 ** 12), (10 ** 12, 1)):
                self.check_between(line, slot, amount, limits)
            for side in (0, 1):
                row = [pair[side] for pair in limits if pair[side] is not None]
                self.assertTrue(all(compare_points(one, two) <= 0 for one, two in zip(row, row[1:])))

    def test_each_number_between_is_taken(self):
        chance = random.Random(308)
        taken = 0
        for _ in range(40):
            line = random_line(chance)
            slot = random_slot(chance, line)
            for index, (lower, upper) in enumerate(pace_limits(line, slot)):
                if upper is None:
                    pace = enclosed(lower, ONE)[1]
                elif compare_points(lower, upper) == 0:
                    continue
                else:
                    pace = fraction_between(lower, upper)
                amount = turning_amount(line, slot, pace)
                self.assertIsNotNone(amount)
                self.assertEqual(0, compare_pace(with_amount(line, slot, amount), index, pace))
                taken += 1
        self.assertGreater(taken, 80)

    def test_near_the_limits(self):
        chance = random.Random(309)
        for _ in range(20):
            line = random_line(chance, chance.randint(1, 5))
            slot = random_slot(chance, line)
            near, far = [paces_of(with_amount(line, slot, amount)) for amount in ((1, 10 ** 40), (10 ** 40, 1))]
            if slot[0] == "disc":
                near, far = far, near
            for index, (lower, upper) in enumerate(pace_limits(line, slot)):
                above = enclosed(lower, (1, 10 ** 6))[1]
                self.assertEqual(-1, compare_points(near[index], above))
                below = (10 ** 6, 1) if upper is None else enclosed(upper, (1, 10 ** 6))[0]
                self.assertEqual(1, compare_points(far[index], below))


class AmountsSlower(unittest.TestCase):
    def test_ordinary(self):
        self.assertEqual((ONE, False, None, False), amounts_slower(PAIR, LOAD, 0, ONE))
        self.assertIsNone(amounts_slower(PAIR, LOAD, 1, (2, 1)))
        self.assertEqual((NONE, False, (1, 2), False), amounts_slower(PAIR, SHAFT, 1, (2, 1)))
        self.assertEqual(ALL, amounts_slower(PAIR, SHAFT, 0, (2, 1)))
        self.assertEqual(ALL, amounts_slower(FREE, ("disc", 0), 0, (1, 10 ** 50)))
        self.assertIsNone(amounts_slower(FREE, ("disc", 0), 0, NONE))

    def test_a_swing_that_never_moves(self):
        self.assertIsNone(amounts_slower(THREE, ("disc", 1), 1, ONE))
        self.assertEqual(ALL, amounts_slower(THREE, ("disc", 1), 1, (101, 100)))

    def test_all_of_two_pieces_is_one_stretch(self):
        # Both with few and with many slower ones swing 0 is slower.
        self.assertEqual(2, len(counts_by_amount(PAIR, LOAD, (3, 1))))
        self.assertEqual(ALL, amounts_slower(PAIR, LOAD, 0, (3, 1)))

    def test_for_all_amounts(self):
        chance = random.Random(310)
        kinds = set()
        for _ in range(80):
            line, pace = random_line(chance), random_pace(chance)
            slot, index = random_slot(chance, line), chance.randrange(len(line[0]))
            stretch = amounts_slower(line, slot, index, pace)
            kinds.add("none" if stretch is None else "all" if stretch == ALL else slot[0])
            for amount in some_amounts(chance, turning_amount(line, slot, pace)):
                expected = oracle.slower(with_amount(line, slot, amount), Fraction(*pace)) > index
                self.assertEqual(expected, stretch is not None and in_stretch(stretch, amount))
        self.assertEqual({"none", "all", "disc", "shaft"}, kinds)


class WrongOnes(unittest.TestCase):
    def test_slots(self):
        for slot in (("disc", 2), ("shaft", 3), ("disc", -1), ("disc", True), ("disk", 0), ("disc",), ("disc", 0, 0),
                     ["disc", 0], "disc", 0, None, (0, "disc"), ("disc", (0, 1)), (b"disc", 0), ("DISC", 0),
                     ("shaft", None), ("", 0), (None, 0), ("disc", "0")):
            for function in (slot_polynomials, pace_limits):
                with self.assertRaises(InvalidSlot) as caught:
                    function(PAIR, slot)
                self.assertIs(slot, caught.exception.given)

    def test_in_the_order_of_the_signature(self):
        self.assertRaises(InvalidLine, count_with, None, None, None, None)
        self.assertRaises(InvalidSlot, count_with, PAIR, None, None, None)
        self.assertRaises(InvalidAmount, count_with, PAIR, LOAD, NONE, None)
        self.assertRaises(InvalidPace, count_with, PAIR, LOAD, ONE, (-1, 1))
        self.assertRaises(InvalidIndex, amounts_slower, PAIR, LOAD, 2, None)
        self.assertRaises(InvalidPace, amounts_slower, PAIR, LOAD, 1, None)
        self.assertRaises(InvalidPace, turning_amount, PAIR, LOAD, ((-2, 0, 1), 1))


if __name__ == "__main__":
    unittest.main()
