"""Answers: how a disc goes when another one is shaken, for all paces."""

import random
import unittest
from fractions import Fraction
from math import gcd

import oracle
from chance import random_fraction, random_line, random_number, sign, told
from shaftshakes.answers import answer_at, answer_of, answer_sign, loud_paces, louder_lot, sign_lot, still_paces
from shaftshakes.errors import InvalidDisc, InvalidFraction, InvalidLine, InvalidPace, InvalidPoint, InvalidSign
from shaftshakes.lines import mirrored_line, paces_of, run_of
from shaftshakes.lots import any_pace, are_same_lots, is_lot, lot_both, lot_either, lot_holds, lot_rest
from shaftshakes.points import compare_points, enclosed, fraction_between, is_knot
from shaftshakes.polynomials import common_divisor
from shaftshakes.shapes import resting_discs

ONE, NONE = (1, 1), (0, 1)
PAIR = ((ONE, ONE), (ONE, ONE, ONE))
TWO = ((ONE, ONE), (NONE, ONE, NONE))
THREE = ((ONE, ONE, ONE), (NONE, ONE, ONE, NONE))
FREE = ((ONE,), (NONE, NONE))
ALL = ((NONE, True, None, False),)


def random_case(chance, size=None):
    line = random_line(chance, size)
    return line, chance.randrange(len(line[0])), chance.randrange(len(line[0]))


def random_pace(chance):
    return told(abs(Fraction(*random_fraction(chance))))


class Pairs(unittest.TestCase):
    def test_ordinary(self):
        self.assertEqual(((2, -1), (3, -4, 1)), answer_of(PAIR, 0, 0))
        self.assertEqual(((1,), (3, -4, 1)), answer_of(PAIR, 0, 1))
        self.assertEqual(((1,), (3, -4, 1)), answer_of(PAIR, 1, 0))

    def test_one_disc(self):
        self.assertEqual(((-1,), (0, 1)), answer_of(FREE, 0, 0))
        # 1 / (1 / 3 + 1 / 2 - 2 L / 3)
        self.assertEqual(((-6,), (-5, 4)), answer_of((((2, 3),), ((1, 3), (1, 2))), 0, 0))

    def test_a_common_factor_is_taken_out(self):
        # The middle disc rests in swing 1, of the pace 1.
        self.assertEqual(((1, -1), (0, -3, 1)), answer_of(THREE, 1, 1))
        self.assertEqual(((1,), (0, -3, 1)), answer_of(THREE, 0, 1))
        self.assertEqual((0, -3, 4, -1), run_of(THREE)[-1])
        self.assertEqual(((-1, 3, -1), (0, 3, -4, 1)), answer_of(THREE, 0, 0))
        self.assertEqual(((-1, 3, -1), (0, 3, -4, 1)), answer_of(THREE, 2, 2))

    def test_a_number_alone_over(self):
        self.assertEqual(((-1,), (0, 3, -4, 1)), answer_of(THREE, 0, 2))
        eight = ((ONE,) * 8, (ONE,) * 9)
        num, den = answer_of(eight, 7, 0)
        self.assertEqual(((1,), 9, 1), (num, len(den), den[-1]))

    def test_numbers_have_no_common_divisor(self):
        # 1 / (4 - 2 L) and 6 / (4 - 2 L)
        self.assertEqual(((-1,), (-4, 2)), answer_of((((2, 1),), ((4, 1), NONE)), 0, 0))
        self.assertEqual(((-3,), (-2, 1)), answer_of((((1, 3),), ((1, 3), (1, 3))), 0, 0))

    def test_as_the_table_tells(self):
        chance = random.Random(201)
        for _ in range(80):
            line, disc, other = random_case(chance)
            num, den = answer_of(line, disc, other)
            self.assertTrue(num and den and den[-1] > 0)
            self.assertEqual((1,), common_divisor(num, den))
            self.assertEqual(1, gcd(*num, *den))
            for _ in range(3):
                pace = random_pace(chance)
                found = oracle.answer(oracle.table(line, Fraction(*pace)), disc, other)
                if found is not None:
                    self.assertEqual(found, oracle.value(num, Fraction(*pace)) / oracle.value(den, Fraction(*pace)))
                    self.assertEqual(told(found), answer_at(line, disc, other, pace))

    def test_both_ways_and_mirrored(self):
        chance = random.Random(202)
        for _ in range(40):
            line, disc, other = random_case(chance)
            found = answer_of(line, disc, other)
            self.assertEqual(found, answer_of(line, other, disc))
            last = len(line[0]) - 1
            self.assertEqual(found, answer_of(mirrored_line(line), last - disc, last - other))


class Values(unittest.TestCase):
    def test_ordinary(self):
        self.assertEqual([(2, 3), None, NONE, None, (1, 3)],
                         [answer_at(PAIR, 0, 0, NONE), answer_at(PAIR, 1, 0, ONE), answer_at(PAIR, 0, 0, (2, 1)),
                          answer_at(PAIR, 0, 1, (3, 1)), answer_at(PAIR, 0, 1, NONE)])
        self.assertEqual((-1, 1), answer_at(FREE, 0, 0, ONE))
        self.assertEqual((-1, 10 ** 300), answer_at(FREE, 0, 0, (10 ** 300, 1)))

    def test_nought_with_free_ends(self):
        for disc in range(3):
            for other in range(3):
                self.assertIsNone(answer_at(THREE, disc, other, NONE))
                self.assertIsNone(answer_sign(THREE, disc, other, NONE))
                self.assertEqual(NONE, loud_paces(THREE, disc, other)[0])

    def test_above_nought_at_nought_otherwise(self):
        chance = random.Random(203)
        for _ in range(60):
            line, disc, other = random_case(chance)
            if line[1][0] == line[1][-1] == NONE:
                self.assertIsNone(answer_at(line, disc, other, NONE))
            else:
                self.assertGreater(answer_at(line, disc, other, NONE)[0], 0)
                self.assertEqual(1, answer_sign(line, disc, other, NONE))

    def test_a_pace_at_which_neither_moves_is_not_endless(self):
        self.assertEqual(NONE, answer_at(THREE, 1, 1, ONE))
        self.assertEqual(told(Fraction(-1, 2)), answer_at(THREE, 0, 1, ONE))

    def test_signs_at_knots(self):
        for point in loud_paces(((ONE, ONE), (ONE, ONE, NONE)), 0, 0):
            self.assertIs(True, is_knot(point))
            self.assertIsNone(answer_sign(((ONE, ONE), (ONE, ONE, NONE)), 0, 0, point))
        chance = random.Random(204)
        for _ in range(40):
            line, disc, other = random_case(chance, chance.randint(1, 6))
            for point in still_paces(line, disc, other):
                self.assertEqual(0, answer_sign(line, disc, other, point))
            for point in loud_paces(line, disc, other):
                self.assertIsNone(answer_sign(line, disc, other, point))
            for point in paces_of(random_line(chance, 2)):
                nearest = [answer_at(line, disc, other, near) for near in enclosed(point, (1, 10 ** 40))
                           if near[0] >= 0]
                signs = {sign(found[0]) for found in nearest if found is not None}
                if len(nearest) == 2 and len(signs) == 1:
                    self.assertEqual(signs, {answer_sign(line, disc, other, point)})

    def test_points_below_nought(self):
        for point in ((-1, 1), ((-2, 0, 1), 0), (-1, 10 ** 99)):
            with self.assertRaises(InvalidPoint) as caught:
                answer_sign(PAIR, 0, 0, point)
            self.assertIs(point, caught.exception.given)
        self.assertEqual(1, answer_sign(PAIR, 0, 0, ((-8, 0, 1), 1)))
        self.assertEqual(-1, answer_sign(PAIR, 0, 0, ((-3, 0, 1), 1)))


class StillAndLoud(unittest.TestCase):
    def test_ordinary(self):
        self.assertEqual([((2, 1),), (), (ONE, (3, 1))],
                         [still_paces(PAIR, 0, 0), still_paces(PAIR, 0, 1), loud_paces(PAIR, 0, 1)])
        self.assertEqual([(), (NONE,)], [still_paces(FREE, 0, 0), loud_paces(FREE, 0, 0)])

    def test_loud_where_neither_rests(self):
        chance = random.Random(205)
        for _ in range(50):
            line, disc, other = random_case(chance)
            loud = [point for index, point in enumerate(paces_of(line))
                    if not {disc, other} & set(resting_discs(line, index))]
            found = loud_paces(line, disc, other)
            self.assertEqual(len(loud), len(found))
            for first, second in zip(loud, found):
                self.assertEqual(0, compare_points(first, second))

    def test_they_alternate_for_one_disc(self):
        chance = random.Random(206)
        for _ in range(50):
            line, disc, _ = random_case(chance)
            still, loud = still_paces(line, disc, disc), loud_paces(line, disc, disc)
            self.assertEqual(len(still) + 1, len(loud))
            for index, point in enumerate(still):
                self.assertEqual((-1, 1), (compare_points(loud[index], point), compare_points(loud[index + 1], point)))
            for first, second in zip(loud, still):
                between = fraction_between(first, second)
                self.assertEqual(-1, answer_sign(line, disc, disc, between))

    def test_none_or_several_between_two_loud_ones(self):
        # From end to end nothing is still.
        self.assertEqual((), still_paces(THREE, 0, 2))
        # t_1 and r_2 are the same, so 1 is still once, although it is twice a root.
        four = ((ONE,) * 4, (NONE, ONE, ONE, ONE, NONE))
        self.assertEqual((1, -2, 1), answer_of(four, 1, 2)[0])
        self.assertEqual((ONE,), still_paces(four, 1, 2))
        near = ((ONE, (10, 1), (10, 1), ONE), (NONE, ONE, ONE, (101, 100), NONE))
        still, loud = still_paces(near, 1, 2), loud_paces(near, 1, 2)
        self.assertEqual((ONE, (101, 100)), still)
        self.assertEqual([2, 2], [sum(compare_points(pace, point) < 0 for pace in loud) for point in still])

    def test_it_rises_wherever_it_is_not_endless(self):
        chance = random.Random(207)
        for _ in range(30):
            line, disc, _ = random_case(chance)
            pace = Fraction(*random_pace(chance))
            rows = oracle.table(line, pace)
            if oracle.determinant(rows) == 0:
                continue
            num, den = answer_of(line, disc, disc)
            below, above = oracle.value(den, pace), oracle.value(num, pace)
            slope = (oracle.value(oracle.slope(num), pace) * below - above * oracle.value(oracle.slope(den), pace))
            slopes = [Fraction(*inertia) * oracle.answer(rows, disc, place) ** 2
                      for place, inertia in enumerate(line[0])]
            self.assertEqual(sum(slopes), slope / below ** 2)


class SignLots(unittest.TestCase):
    def test_ordinary(self):
        self.assertEqual((((0, 1), True, (1, 1), False), ((2, 1), False, (3, 1), False)), sign_lot(PAIR, 0, 0, 1))
        self.assertEqual((((1, 1), False, (2, 1), False), ((3, 1), False, None, False)), sign_lot(PAIR, 0, 0, -1))
        self.assertEqual((((2, 1), True, (2, 1), True),), sign_lot(PAIR, 0, 0, 0))
        self.assertEqual((), sign_lot(PAIR, 0, 1, 0))
        self.assertEqual((), sign_lot(FREE, 0, 0, 1))
        self.assertEqual(((NONE, False, None, False),), sign_lot(FREE, 0, 0, -1))

    def test_a_still_pace_at_which_the_sign_stays(self):
        four = ((ONE,) * 4, (NONE, ONE, ONE, ONE, NONE))
        self.assertEqual(((ONE, True, ONE, True),), sign_lot(four, 1, 2, 0))
        lots = [sign_lot(four, 1, 2, each) for each in (1, -1)]
        around = [any(lot_holds(lot, pace) for pace in ((99, 100), (101, 100))) for lot in lots]
        self.assertEqual(1, sum(around))
        self.assertFalse(any(lot_holds(lot, ONE) for lot in lots))

    def test_all_signs_and_the_loud_paces_are_all(self):
        chance = random.Random(208)
        for _ in range(40):
            line, disc, other = random_case(chance)
            lots = [sign_lot(line, disc, other, each) for each in (1, 0, -1)]
            together = ()
            for lot in lots:
                self.assertIs(True, is_lot(lot))
                self.assertEqual((), lot_both(together, lot))
                together = lot_either(together, lot)
            loud = tuple((point, True, point, True) for point in loud_paces(line, disc, other))
            self.assertTrue(are_same_lots(lot_rest(together), loud))
            still = tuple((point, True, point, True) for point in still_paces(line, disc, other))
            self.assertTrue(are_same_lots(lots[1], still))
            for _ in range(4):
                pace = random_pace(chance)
                found = oracle.answer(oracle.table(line, Fraction(*pace)), disc, other)
                if found is not None:
                    self.assertEqual([each == sign(found) for each in (1, 0, -1)],
                                     [lot_holds(lot, pace) for lot in lots])


class LouderLots(unittest.TestCase):
    def test_ordinary(self):
        knots = ((2, -4, 1), 0), ((2, -4, 1), 1)
        expected = ((knots[0], False, (2, 1), False), ((2, 1), False, knots[1], False))
        self.assertTrue(are_same_lots(expected, louder_lot(PAIR, 0, 1, ONE)))

    def test_the_level_nought(self):
        self.assertEqual(ALL, louder_lot(PAIR, 0, 1, NONE))
        self.assertEqual(((NONE, True, (2, 1), False), ((2, 1), False, None, False)), louder_lot(PAIR, 0, 0, NONE))
        self.assertEqual(ALL, louder_lot(FREE, 0, 0, NONE))
        chance = random.Random(209)
        for _ in range(20):
            line, disc, other = random_case(chance)
            self.assertTrue(are_same_lots(lot_rest(sign_lot(line, disc, other, 0)),
                                          louder_lot(line, disc, other, NONE)))

    def test_a_level_that_the_answer_has_at_a_pace(self):
        # -1 / L: as loud as 2 at 1 / 2, louder below.
        self.assertEqual(((NONE, True, (1, 2), False),), louder_lot(FREE, 0, 0, (2, 1)))
        # 2 / 3 at 0, less nowhere ahead of the first loud pace.
        self.assertIs(False, lot_holds(louder_lot(PAIR, 0, 0, (2, 3)), NONE))
        self.assertIs(True, lot_holds(louder_lot(PAIR, 0, 0, (2, 3)), (1, 10 ** 50)))
        self.assertIs(True, lot_holds(louder_lot(PAIR, 0, 0, (2 * 10 ** 50 - 1, 3 * 10 ** 50)), NONE))

    def test_loud_paces_are_among_them(self):
        chance = random.Random(210)
        for _ in range(30):
            line, disc, other = random_case(chance, chance.randint(1, 6))
            lot = louder_lot(line, disc, other, random_number(chance, 9))
            for point in loud_paces(line, disc, other):
                self.assertIs(True, lot_holds(lot, point))

    def test_as_the_table_tells(self):
        chance = random.Random(211)
        for _ in range(40):
            line, disc, other = random_case(chance)
            paces = [random_pace(chance) for _ in range(4)]
            answers = [oracle.answer(oracle.table(line, Fraction(*pace)), disc, other) for pace in paces]
            known = [abs(found) for found in answers if found is not None]
            level = told(chance.choice(known + [Fraction(chance.randint(0, 9), 9)]))
            lot = louder_lot(line, disc, other, level)
            self.assertIs(True, is_lot(lot))
            for pace, found in zip(paces, answers):
                if found is not None:
                    self.assertEqual(abs(found) > Fraction(*level), lot_holds(lot, pace))
            for one in (lot, lot_rest(lot)):
                pace = any_pace(one)
                if pace is not None:
                    found = oracle.answer(oracle.table(line, Fraction(*pace)), disc, other)
                    if found is not None:
                        self.assertEqual(abs(found) > Fraction(*level), one is lot)

    def test_a_higher_level_leaves_less(self):
        lots = [louder_lot(THREE, 0, 1, level) for level in ((1, 9), (1, 2), ONE, (9, 1))]
        for first, second in zip(lots, lots[1:]):
            self.assertTrue(are_same_lots(second, lot_both(first, second)))
            self.assertFalse(are_same_lots(first, second))


class WrongOnes(unittest.TestCase):
    def test_each(self):
        for level in ((-1, 2), (2, 4), None, 1, True):
            with self.assertRaises(InvalidFraction) as caught:
                louder_lot(PAIR, 0, 1, level)
            self.assertIs(level, caught.exception.given)
        for wrong in (2, -2, True, False, None, "1", (1, 1)):
            with self.assertRaises(InvalidSign) as caught:
                sign_lot(PAIR, 0, 1, wrong)
            self.assertIs(wrong, caught.exception.given)

    def test_in_the_order_of_the_signature(self):
        self.assertRaises(InvalidLine, answer_of, None, 5, 5)
        with self.assertRaises(InvalidDisc) as caught:
            answer_of(PAIR, 7, 8)
        self.assertEqual(7, caught.exception.given)
        with self.assertRaises(InvalidDisc) as caught:
            sign_lot(PAIR, 1, 2, 5)
        self.assertEqual(2, caught.exception.given)
        self.assertRaises(InvalidPace, answer_at, PAIR, 1, 1, (-1, 2))
        self.assertRaises(InvalidPace, answer_at, PAIR, 1, 1, ((-2, 0, 1), 1))


if __name__ == "__main__":
    unittest.main()
