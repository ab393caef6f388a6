"""Changes: one number otherwise, discs that are held, swings beside those of a changed line."""

import functools
import random
import unittest
from fractions import Fraction

from chance import random_line, random_number, sign
from shaftshakes.changes import change_signs, held_parts, with_disc, with_shaft
from shaftshakes.errors import InvalidAmount, InvalidDisc, InvalidLine, InvalidShaft, Unlike
from shaftshakes.lines import compare_pace, compare_swings, is_line, mirrored_line, paces_of
from shaftshakes.points import compare_points
from shaftshakes.shapes import resting_discs, untwisted_shafts

ONE, NONE = (1, 1), (0, 1)
TWO_DISCS = ((ONE, ONE), (NONE, ONE, NONE))
THREE_DISCS = ((ONE, ONE, ONE), (NONE, ONE, ONE, NONE))
SINGLE = ((ONE,), (NONE, ONE))
LINE = (((1, 1), (2, 1), (3, 1)), ((4, 1), (5, 1), (6, 1), (7, 1)))


class OneNumber(unittest.TestCase):
    def test_discs(self):
        self.assertEqual((((9, 2), (2, 1), (3, 1)), LINE[1]), with_disc(LINE, 0, (9, 2)))
        self.assertEqual((((1, 1), (9, 2), (3, 1)), LINE[1]), with_disc(LINE, 1, (9, 2)))
        self.assertEqual((((1, 1), (2, 1), (9, 2)), LINE[1]), with_disc(LINE, 2, (9, 2)))
        self.assertEqual(LINE, with_disc(LINE, 1, (2, 1)))
        self.assertEqual((((9, 2),), (NONE, ONE)), with_disc(SINGLE, 0, (9, 2)))

    def test_shafts(self):
        for shaft in range(4):
            found = with_shaft(LINE, shaft, (9, 2))
            self.assertEqual(LINE[0], found[0])
            self.assertEqual(tuple((9, 2) if place == shaft else LINE[1][place] for place in range(4)), found[1])
        self.assertEqual((LINE[0], ((0, 1), (5, 1), (6, 1), (7, 1))), with_shaft(LINE, 0, (0, 1)))
        self.assertEqual((LINE[0], ((4, 1), (5, 1), (6, 1), (0, 1))), with_shaft(LINE, 3, (0, 1)))
        self.assertEqual([((ONE,), ((0, 1), ONE)), ((ONE,), (NONE, (0, 1)))],
                         [with_shaft(SINGLE, shaft, (0, 1)) for shaft in (0, 1)])

    def test_nought_is_no_amount_elsewhere(self):
        for shaft in (1, 2):
            with self.assertRaises(InvalidAmount) as caught:
                with_shaft(LINE, shaft, (0, 1))
            self.assertEqual((0, 1), caught.exception.given)
        for disc in range(3):
            self.assertRaises(InvalidAmount, with_disc, LINE, disc, (0, 1))

    def test_amounts_below_nought_are_none(self):
        for place in range(3):
            self.assertRaises(InvalidAmount, with_disc, LINE, place, (-1, 2))
            self.assertRaises(InvalidAmount, with_shaft, LINE, place, (-1, 2))
        self.assertRaises(InvalidAmount, with_shaft, LINE, 3, (-1, 10 ** 99))

    def test_in_the_order_of_the_signature(self):
        self.assertRaises(InvalidLine, with_disc, None, None, None)
        self.assertRaises(InvalidDisc, with_disc, LINE, 3, None)
        self.assertRaises(InvalidShaft, with_shaft, LINE, 4, None)
        self.assertRaises(InvalidAmount, with_shaft, LINE, 3, None)

    def test_the_last_shaft_is_one(self):
        self.assertIs(True, is_line(with_shaft(LINE, 3, ONE)))
        self.assertRaises(InvalidDisc, with_disc, LINE, True, ONE)


class ChangeSigns(unittest.TestCase):
    def test_ordinary(self):
        heavy = with_disc(THREE_DISCS, 1, (2, 1))
        self.assertEqual((0, 0, -1), change_signs(heavy, THREE_DISCS))
        self.assertEqual((0, 0, 1), change_signs(THREE_DISCS, heavy))
        self.assertEqual((1, 1), change_signs(with_shaft(TWO_DISCS, 0, ONE), TWO_DISCS))
        self.assertEqual((0, 0, 0), change_signs(LINE, mirrored_line(LINE)))
        self.assertEqual((0,), change_signs(SINGLE, SINGLE))

    def test_unlike_lines(self):
        with self.assertRaises(Unlike) as caught:
            change_signs(LINE, TWO_DISCS)
        self.assertIs(TWO_DISCS, caught.exception.given)
        with self.assertRaises(Unlike) as caught:
            change_signs(TWO_DISCS, LINE)
        self.assertIs(LINE, caught.exception.given)
        self.assertRaises(InvalidLine, change_signs, LINE, (TWO_DISCS[0], LINE[1]))

    def test_a_heavier_disc_makes_slower_where_it_moves(self):
        chance = random.Random(51)
        for _ in range(50):
            line = random_line(chance)
            disc, amount = chance.randrange(len(line[0])), random_number(chance, 5)
            other = with_disc(line, disc, amount)
            lighter = sign(Fraction(*line[0][disc]) - Fraction(*amount))
            told = []
            for index in range(len(line[0])):
                stays = disc in resting_discs(line, index) or compare_pace(line, index, NONE) == 0
                told.append(0 if stays else lighter)
            self.assertEqual(tuple(told), change_signs(other, line))
            self.check_next(line, other, lighter)

    def test_a_stiffer_shaft_makes_faster_where_it_is_twisted(self):
        chance = random.Random(52)
        for _ in range(50):
            line = random_line(chance)
            shaft, amount = chance.randrange(len(line[1])), random_number(chance, 5)
            other = with_shaft(line, shaft, amount)
            stiffer = sign(Fraction(*amount) - Fraction(*line[1][shaft]))
            told = [0 if shaft in untwisted_shafts(line, index) else stiffer for index in range(len(line[0]))]
            self.assertEqual(tuple(told), change_signs(other, line))
            self.check_next(line, other, stiffer)

    def check_next(self, line, other, faster):
        """One number makes no swing faster than the next one of the slower line."""
        slow, fast = (line, other) if faster > 0 else (other, line)
        for index in range(len(line[0]) - 1):
            self.assertLessEqual(compare_swings(fast, index, slow, index + 1), 0)

    def test_no_swing_is_faster_where_nothing_is_lighter_or_stiffer(self):
        chance = random.Random(53)
        for _ in range(30):
            line = random_line(chance)
            other = line
            for disc in range(len(line[0])):
                more = Fraction(*line[0][disc]) + chance.choice([0, 0, Fraction(1, 3), 2])
                other = with_disc(other, disc, (more.numerator, more.denominator))
            for shaft in range(len(line[1])):
                less = Fraction(*line[1][shaft]) * chance.choice([1, 1, Fraction(1, 2), Fraction(5, 6)])
                other = with_shaft(other, shaft, (less.numerator, less.denominator))
            self.assertNotIn(1, change_signs(other, line))


class Held(unittest.TestCase):
    def test_ordinary(self):
        ahead, behind = held_parts(LINE, 1)
        self.assertEqual((((1, 1),), ((4, 1), (5, 1))), ahead)
        self.assertEqual((((3, 1),), ((6, 1), (7, 1))), behind)

    def test_the_first_and_the_last_disc(self):
        self.assertEqual(((((2, 1), (3, 1)), ((5, 1), (6, 1), (7, 1))),), held_parts(LINE, 0))
        self.assertEqual(((((1, 1), (2, 1)), ((4, 1), (5, 1), (6, 1))),), held_parts(LINE, 2))

    def test_a_single_disc(self):
        self.assertEqual((), held_parts(SINGLE, 0))

    def test_wrong_ones(self):
        for disc in (3, -1, None, True):
            with self.assertRaises(InvalidDisc) as caught:
                held_parts(LINE, disc)
            self.assertIs(disc, caught.exception.given)

    def test_held_swings_lie_between_those_of_the_line(self):
        chance = random.Random(54)
        for _ in range(40):
            line = random_line(chance)
            disc = chance.randrange(len(line[0]))
            parts = held_parts(line, disc)
            self.assertTrue(all(is_line(part) for part in parts))
            held = [point for part in parts for point in paces_of(part)]
            held = sorted(held, key=functools.cmp_to_key(compare_points))
            self.assertEqual(len(line[0]) - 1, len(held))
            for index, point in enumerate(held):
                slower, faster = compare_pace(line, index, point), compare_pace(line, index + 1, point)
                self.assertTrue(slower <= 0 <= faster)
                self.assertEqual(disc in resting_discs(line, index), slower == 0)
                self.assertEqual(disc in resting_discs(line, index + 1), faster == 0)


if __name__ == "__main__":
    unittest.main()
