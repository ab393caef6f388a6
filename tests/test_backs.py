"""Read back: the line that answers so, its greatest wall, the line of two rows of paces."""

import collections
import random
import unittest
from fractions import Fraction
from math import lcm

import oracle
from chance import multiplied, random_line, random_polynomial, told
from shaftshakes.answers import answer_of, still_paces
from shaftshakes.backs import greatest_stay, line_of_answer, line_of_paces, rewalled
from shaftshakes.changes import held_parts
from shaftshakes.errors import InvalidFraction, InvalidLine, InvalidPolynomial
from shaftshakes.lines import is_line, paces_of, run_of
from shaftshakes.points import compare_points

ONE, NONE = (1, 1), (0, 1)
HELD = ((ONE, ONE), (ONE, ONE, NONE))
NINE = ((ONE,) * 9, (NONE,) + (ONE,) * 9)


def free_and_held(line):
    """The ends of a line of any length, its first end being free and its first disc held, over one another."""
    discs, shafts = oracle.fractions_of(line[0]), oracle.fractions_of(line[1])
    angles, torques = (Fraction(1),), (shafts[-1],)
    for place in range(len(discs) - 1, -1, -1):
        row = [Fraction(0)] + [discs[place] * number for number in angles]
        size = max(len(row), len(torques))
        torques = tuple((torques[k] if k < len(torques) else 0) - (row[k] if k < len(row) else 0) for k in range(size))
        held = angles
        if place:
            angles = tuple((angles[k] if k < len(angles) else 0) + torques[k] / shafts[place]
                           for k in range(len(torques)))
    return torques, held


def whole(*rows):
    scale = lcm(*[number.denominator for row in rows for number in row])
    return [tuple(int(number * scale) for number in row) for row in rows]


def from_roots(*roots):
    return multiplied(*[(-Fraction(root).numerator, Fraction(root).denominator) for root in roots])


class LineOfAnswer(unittest.TestCase):
    def test_ordinary(self):
        self.assertEqual(((ONE, ONE), (NONE, ONE, NONE)), line_of_answer((1, -1), (0, -2, 1), NONE))
        self.assertEqual(((ONE,), (ONE, (3, 1))), line_of_answer((-1,), (-4, 1), ONE))
        self.assertEqual(((ONE,), ((4, 1), NONE)), line_of_answer((-1,), (-4, 1), (4, 1)))
        self.assertIsNone(line_of_answer((-1,), (-4, 1), (5, 1)))
        self.assertIsNone(line_of_answer((-1,), (-4, 1), (4 * 10 ** 60 + 1, 10 ** 60)))

    def test_one_disc(self):
        self.assertEqual((((2, 3),), (NONE, NONE)), line_of_answer((-3,), (0, 2), NONE))
        self.assertEqual((((2, 3),), (NONE, (5, 6))), line_of_answer((6,), (5, -4), NONE))
        self.assertIsNone(line_of_answer((-3,), (0, 2), (1, 10 ** 50)))

    def test_what_is_that_of_no_line(self):
        for num, den in (((1,), (-4, 1)), ((-1,), (4, 1)), ((1,), (1,)), ((-1,), (1,)), ((1,), (0, 0, 1)),
                         ((0, 1), (1,)), ((1, 1), (1, 1)), ((0, -1), (0, 0, -2, 1)), ((1, -1), (2, -2, 1)),
                         ((-1, 1), (0, -2, 1)), ((3, -1), (0, -2, 1)), ((1, -1), (0, -2, 0, 1)), ((1,), (2, -3, 1)),
                         ((2, -1), (1, -2, 1)), ((1, 0, -1), (0, -2, 0, 1)), ((1, -1), (-1, -2, 1))):
            for wall in (NONE, ONE):
                self.assertIsNone(line_of_answer(num, den, wall))

    def test_only_the_fraction_counts(self):
        for factor in ((2,), (-3,), (5, 1), (-1, 1), (1, 0, 1), (0, 0, -7), (-2, 1)):
            num, den = multiplied((1, -1), factor), multiplied((0, -2, 1), factor)
            self.assertEqual(((ONE, ONE), (NONE, ONE, NONE)), line_of_answer(num, den, NONE))
            self.assertEqual(NONE, greatest_stay(num, den))

    def test_lines_are_read_back(self):
        chance = random.Random(601)
        for _ in range(60):
            line = random_line(chance)
            num, den = answer_of(line, 0, 0)
            self.assertEqual(line, line_of_answer(num, den, line[1][0]))
            factor = random_polynomial(chance)
            self.assertEqual(line, line_of_answer(multiplied(num, factor), multiplied(den, factor), line[1][0]))

    def test_more_than_eight_discs(self):
        held, whole_end = whole(*free_and_held(NINE))[::-1]
        self.assertEqual((9, 10), (len(held), len(whole_end)))
        self.assertIsNone(line_of_answer(held, whole_end, NONE))
        self.assertIsNone(greatest_stay(held, whole_end))
        self.assertIsNone(line_of_paces(whole_end, held))
        eight = ((ONE,) * 8, (NONE,) + (ONE,) * 8)
        held, whole_end = whole(*free_and_held(eight))[::-1]
        self.assertEqual(eight, line_of_answer(held, whole_end, NONE))
        # Degrees count without the common divisor.
        factor = (1, 2, 3, 4)
        self.assertEqual(eight, line_of_answer(multiplied(held, factor), multiplied(whole_end, factor), NONE))

    def test_by_chance(self):
        chance = random.Random(602)
        found = 0
        for _ in range(400):
            roots = sorted(Fraction(chance.randint(-1, 9), chance.randint(1, 3)) for _ in range(chance.randint(1, 7)))
            if chance.random() < 0.6 and len(set(roots)) == len(roots):
                den, num = roots[::2], roots[1::2]
            else:
                split = chance.randint(0, len(roots))
                den, num = roots[:split], roots[split:]
            lead = chance.choice([-1, -1, -2, 1])
            line = line_of_answer(multiplied(from_roots(*num), (lead,)), from_roots(*den), NONE)
            common = collections.Counter(den) & collections.Counter(num)
            loud, still = collections.Counter(den) - common, collections.Counter(num) - common
            merged = sorted([(root, 0) for root in loud.elements()] + [(root, 1) for root in still.elements()])
            fits = (lead < 0 and len(merged) % 2 == 1 and merged[0][0] >= 0
                    and [kind for _, kind in merged] == [k % 2 for k in range(len(merged))]
                    and len({root for root, _ in merged}) == len(merged))
            self.assertEqual(fits, line is not None, (den, num))
            found += fits
        self.assertGreater(found, 40)


class Stays(unittest.TestCase):
    def test_ordinary(self):
        self.assertEqual((4, 1), greatest_stay((-1,), (-4, 1)))
        self.assertEqual(NONE, greatest_stay((1, -1), (0, -2, 1)))
        self.assertIsNone(greatest_stay((1,), (-4, 1)))
        self.assertIsNone(greatest_stay((1, -1), (-1, -2, 1)))

    def test_up_to_the_greatest_wall(self):
        chance = random.Random(603)
        for _ in range(60):
            line = random_line(chance)
            num, den = answer_of(line, 0, 0)
            most = greatest_stay(num, den)
            # The wall and all that holds the line apart from it, 1 / H at the pace 0.
            still = oracle.answer(oracle.table(line, 0), 0, 0)
            self.assertEqual(told(0 if still is None else 1 / still), most)
            for part in (0, Fraction(1, 3), 1 - Fraction(1, 10 ** 30), 1):
                wall = told(Fraction(*most) * part)
                other = line_of_answer(num, den, wall)
                self.assertIs(True, is_line(other))
                self.assertEqual(wall, other[1][0])
                self.assertEqual((num, den), answer_of(other, 0, 0))
                self.assertEqual(wall == most, other[1][-1] == NONE)
                self.assertEqual(other, rewalled(line, wall))
            above = told(Fraction(*most) + Fraction(1, 10 ** 30))
            self.assertIsNone(line_of_answer(num, den, above))
            self.assertIsNone(rewalled(line, above))
            self.assertEqual(line, rewalled(line, line[1][0]))


class Rewalled(unittest.TestCase):
    def test_ordinary(self):
        self.assertEqual(((ONE, (4, 1)), (NONE, (2, 1), (2, 1))), rewalled(HELD, NONE))
        self.assertIsNone(rewalled(HELD, (2, 1)))
        self.assertEqual(HELD, rewalled(HELD, ONE))
        self.assertEqual(((ONE,), (NONE, NONE)), rewalled(((ONE,), (NONE, NONE)), NONE))
        self.assertIsNone(rewalled(((ONE,), (NONE, NONE)), ONE))
        self.assertEqual(((ONE,), ((1, 3), (11, 3))), rewalled(((ONE,), (ONE, (3, 1))), (1, 3)))

    def test_what_is_unlike_is_the_wall_alone(self):
        chance = random.Random(604)
        for _ in range(30):
            line = random_line(chance)
            wall = told(Fraction(chance.randint(0, 9), 10))
            other = rewalled(line, wall)
            if other is not None:
                self.assertEqual((wall, line[0][0]), (other[1][0], other[0][0]))
                self.assertEqual(line, rewalled(other, line[1][0]))


class LineOfPaces(unittest.TestCase):
    def test_ordinary(self):
        self.assertEqual(((ONE,) * 3, (NONE, ONE, ONE, NONE)), line_of_paces((0, -3, 4, -1), (1, -3, 1)))
        self.assertIsNone(line_of_paces((0, -2, 1), (3, -1)))
        self.assertEqual(((ONE,), (NONE, (4, 1))), line_of_paces((-4, 1), (1,)))
        self.assertEqual(((ONE,), (NONE, (4, 1))), line_of_paces((8, -2), (-7,)))
        self.assertEqual(((ONE,), (NONE, NONE)), line_of_paces((0, 5), (3,)))

    def test_signs_and_factors_do_not_count(self):
        for one in (1, -1, 6, -35):
            for two in (1, -1, 6, -35):
                self.assertEqual(((ONE,) * 3, (NONE, ONE, ONE, NONE)),
                                 line_of_paces(multiplied((0, -3, 4, -1), (one,)), multiplied((1, -3, 1), (two,))))

    def test_none(self):
        for free, held in (((1,), (1,)), ((1,), (0, 1)), ((-1, 1), (-1, 1)), ((1, 1), (1,)), ((-4, 1), (-2, 1)),
                           (from_roots(1, 1), from_roots(1)), (from_roots(1, 2), from_roots(1)),
                           (from_roots(1, 2), from_roots(2)), (from_roots(1, 2), (1,)),
                           (from_roots(-1, 2), from_roots(1)), (from_roots(1, 2), from_roots(0)),
                           (from_roots(1, 2), from_roots(1, 2)), ((2, -2, 1), from_roots(1)),
                           (from_roots(1, 3, 5), from_roots(2, Fraction(5, 2))), (from_roots(1, 3, 5), (7, -4, 1)),
                           (from_roots(1, 3, 5), from_roots(2, 2)), (from_roots(1, 3, 3), from_roots(2, 3)),
                           (from_roots(1, 3, 5), from_roots(2, 6)), (from_roots(1, 3, 5), from_roots(2, 4, 6)),
                           (multiplied(from_roots(1), (2, -2, 1)), from_roots(2, 4)),
                           (from_roots(1, 3, 5, 5), from_roots(2, 4, 5)),
                           (multiplied(from_roots(1, 3), (1, 0, 1)), multiplied(from_roots(2), (1, 0, 1)))):
            self.assertIsNone(line_of_paces(free, held))

    def test_paces_are_those_roots(self):
        chance = random.Random(605)
        for _ in range(60):
            size = chance.randint(1, 8)
            numbers = set()
            while len(numbers) < 2 * size - 1:
                numbers.add(Fraction(chance.randint(0, 40), chance.randint(1, 5)))
            numbers = sorted(numbers)
            free, held = numbers[::2], numbers[1::2]
            line = line_of_paces(multiplied(from_roots(*free), (chance.choice([1, -2, 3]),)),
                                 multiplied(from_roots(*held), (chance.choice([1, -2, 3]),)))
            self.assertIs(True, is_line(line))
            self.assertEqual((ONE, NONE), (line[0][0], line[1][0]))
            self.assertEqual(tuple(told(root) for root in free), paces_of(line))
            behind = held_parts(line, 0)
            self.assertEqual(tuple(told(root) for root in held), paces_of(behind[0]) if behind else ())
            swapped = list(free)
            if size > 1:
                swapped[0], held[0] = held[0], swapped[0]
                self.assertIsNone(line_of_paces(from_roots(*swapped), from_roots(*held)))

    def test_the_line_but_for_one_factor(self):
        chance = random.Random(606)
        for _ in range(40):
            line = random_line(chance)
            line = (line[0], (NONE,) + line[1][1:])
            num, _ = answer_of(line, 0, 0)
            first = Fraction(*line[0][0])
            scaled = tuple(tuple(told(Fraction(*number) / first) for number in row) for row in line)
            held = run_of(held_parts(line, 0)[0])[-1] if len(line[0]) > 1 else (1,)
            self.assertEqual(scaled, line_of_paces(run_of(line)[-1], held))
            self.assertEqual(0, sum(compare_points(one, two) != 0 for one, two in zip(
                still_paces(line, 0, 0), paces_of(held_parts(line, 0)[0]) if len(line[0]) > 1 else ())))
            self.assertEqual(len(num), len(line[0]))


class WrongOnes(unittest.TestCase):
    def test_nought_is_none_of_the_polynomials(self):
        for call in (lambda: line_of_answer((), (1,), NONE), lambda: line_of_answer((1,), (), NONE),
                     lambda: greatest_stay((), (1,)), lambda: greatest_stay((1,), ()),
                     lambda: line_of_paces((), (1,)), lambda: line_of_paces((0, 1), ())):
            with self.assertRaises(InvalidPolynomial) as caught:
                call()
            self.assertEqual((), caught.exception.given)

    def test_walls(self):
        for wall in ((-1, 1), (2, 4), None, 0, True, (1, 0), ((-2, 0, 1), 1)):
            for call in (lambda: line_of_answer((-1,), (-4, 1), wall), lambda: rewalled(HELD, wall)):
                with self.assertRaises(InvalidFraction) as caught:
                    call()
                self.assertIs(wall, caught.exception.given)

    def test_in_the_order_of_the_signature(self):
        self.assertRaises(InvalidPolynomial, line_of_answer, (), (), None)
        with self.assertRaises(InvalidPolynomial) as caught:
            line_of_answer((1,), (1, 0), None)
        self.assertEqual((1, 0), caught.exception.given)
        self.assertRaises(InvalidLine, rewalled, None, None)


if __name__ == "__main__":
    unittest.main()
