"""Lines: what is one, its run, its paces, how many swings are slower."""

import itertools
import random
import unittest
from fractions import Fraction

import oracle
from chance import random_line, sign, told
from shaftshakes.errors import InvalidIndex, InvalidLine, InvalidNumber, InvalidPace, InvalidPoint
from shaftshakes.lines import compare_pace, compare_swings, is_line, mirrored_line, paces_of, run_of, slower_count
from shaftshakes.points import compare_points, is_point

ONE, NONE = (1, 1), (0, 1)
TWO_DISCS = ((ONE, ONE), (NONE, ONE, NONE))
THREE_DISCS = ((ONE, ONE, ONE), (NONE, ONE, ONE, NONE))
HELD = ((ONE, ONE), (ONE, ONE, NONE))
EIGHT = ((ONE,) * 8, (NONE,) + (ONE,) * 7 + (NONE,))


class Kinds(unittest.TestCase):
    def test_lines(self):
        for line in (TWO_DISCS, THREE_DISCS, HELD, EIGHT, ((ONE,), (NONE, NONE)), ((ONE,), (ONE, NONE)),
                     ((ONE,), (NONE, ONE)),
                     (((10 ** 399, 7),), ((1, 10 ** 399), (2, 3)))):
            self.assertIs(True, is_line(line))

    def test_no_lines(self):
        for value in ((), ((), ()), ((), (NONE,)), ((ONE,), (NONE,)), ((ONE,), (NONE, NONE, NONE)),
                      ((ONE,) * 9, (ONE,) * 10),
                      ((NONE,), (ONE, ONE)), (((-1, 1),), (ONE, ONE)), ((ONE,), ((-1, 1), ONE)),
                      ((ONE,), (ONE, (-1, 1))),
                      ((ONE, ONE), (ONE, NONE, ONE)), ((ONE, ONE), (ONE, (-1, 2), ONE)), (((2, 2),), (NONE, NONE)),
                      ((ONE,), (NONE, (0, 2))), ([ONE], (NONE, NONE)), ((ONE,), [NONE, NONE]),
                      ([ONE, ONE], (NONE, ONE, NONE)),
                      ((ONE,), (NONE, NONE), ()), ((1,), (0, 0)), (((True, 1),), (NONE, NONE)),
                      (((1, True),), (NONE, NONE)),
                      None, 3, "line", ((ONE,), None), (None, (ONE, ONE)), ((((-2, 0, 1), 1),), (ONE, ONE))):
            self.assertIs(False, is_line(value))


class Runs(unittest.TestCase):
    def test_ordinary(self):
        self.assertEqual(((1,), (1, -1), (0, -2, 1)), run_of(TWO_DISCS))
        self.assertEqual(((1,), (1, -1), (1, -3, 1), (0, -3, 4, -1)), run_of(THREE_DISCS))
        self.assertEqual(((1,), (2, -1), (1, -3, 1)), run_of(HELD))

    def test_one_disc(self):
        self.assertEqual(((1,), (0, -1)), run_of(((ONE,), (NONE, NONE))))
        self.assertEqual(((1,), (5, -4)), run_of((((2, 3),), ((1, 3), (1, 2)))))
        self.assertEqual(((1,), (1, -2)), run_of((((2, 3),), ((1, 3), NONE))))

    def test_numbers_are_thinned_and_signs_kept(self):
        # t_1 = 1 - 2 L / 3, the end 1 / 2 - (2 / 3 + 4 / 3 + 1 / 3) L + ...
        line = (((2, 1), (4, 1)), (NONE, (3, 1), (1, 2)))
        run = run_of(line)
        self.assertEqual(((1,), (3, -2)), run[:2])
        self.assertEqual((3, -38, 16), run[2])
        for polynomial in run:
            for divisor in (2, 3, 5, 7):
                self.assertTrue(any(number % divisor for number in polynomial))

    def test_as_the_rows_of_the_table_tell(self):
        chance = random.Random(31)
        for _ in range(60):
            line = random_line(chance)
            run = run_of(line)
            size = len(line[0])
            self.assertEqual(list(range(1, size + 2)), [len(polynomial) for polynomial in run])
            ratios = set()
            for place in range(size + 1):
                pace = Fraction(-1 - place, 3)
                angles = oracle.angles(line, pace)
                self.assertEqual([sign(angle) for angle in angles],
                                 [sign(oracle.value(each, pace)) for each in run[:-1]])
                ratios.add(oracle.value(run[-1], pace) / oracle.determinant(oracle.table(line, pace)))
            self.assertEqual(1, len(ratios))
            self.assertGreater(ratios.pop(), 0)

    def test_angles_are_those_of_the_run_times_one_number(self):
        chance = random.Random(32)
        for _ in range(30):
            line = random_line(chance)
            run = run_of(line)
            for disc in range(len(line[0])):
                paces = [Fraction(place, 7) - 3 for place in range(disc + 2)]
                ratios = {oracle.angles(line, pace)[disc] / oracle.value(run[disc], pace) for pace in paces
                          if oracle.value(run[disc], pace) != 0}
                self.assertEqual(1, len(ratios))
                self.assertGreater(ratios.pop(), 0)


class Paces(unittest.TestCase):
    def test_ordinary(self):
        self.assertEqual(((0, 1), (2, 1)), paces_of(TWO_DISCS))
        self.assertEqual(((0, 1), (1, 1), (3, 1)), paces_of(THREE_DISCS))
        self.assertEqual(2, len(paces_of(HELD)))

    def test_one_disc(self):
        self.assertEqual(((0, 1),), paces_of((((7, 3),), (NONE, NONE))))
        self.assertEqual(((5, 4),), paces_of((((2, 3),), ((1, 3), (1, 2)))))

    def test_eight_discs(self):
        # The paces of eight like discs are 2 - 2 cos (k / 8 of half a turn), 0, 2, 2 +- the root of 2 among them.
        found = paces_of(EIGHT)
        self.assertEqual(8, len(found))
        self.assertEqual(((0, 1), (2, 1)), (found[0], found[4]))
        self.assertEqual(0, compare_points(found[2], ((2, -4, 1), 0)))
        self.assertEqual(0, compare_points(found[6], ((2, -4, 1), 1)))

    def test_nought_is_one_just_if_both_ends_are_free(self):
        chance = random.Random(33)
        for _ in range(60):
            line = random_line(chance)
            free = line[1][0] == NONE and line[1][-1] == NONE
            self.assertIs(free, paces_of(line)[0] == NONE)

    def test_they_are_roots_of_the_end_and_ascend(self):
        chance = random.Random(34)
        for _ in range(40):
            line = random_line(chance)
            found = paces_of(line)
            self.assertEqual(len(line[0]), len(found))
            for point in found:
                self.assertIs(True, is_point(point))
            for lower, upper in itertools.pairwise(found):
                self.assertEqual(-1, compare_points(lower, upper))
            self.assertGreaterEqual(compare_points(found[0], NONE), 0)
            for index, point in enumerate(found):
                low, high = oracle.cell(run_of(line)[-1], index, Fraction(1, 1000))
                self.assertLessEqual(compare_points(told(low), point), 0)
                self.assertGreaterEqual(compare_points(told(high), point), 0)


class Slower(unittest.TestCase):
    def test_ordinary_and_at_own_paces(self):
        paces = ((0, 1), (1, 2), (1, 1), (2, 1), (3, 1), (4, 1))
        self.assertEqual([0, 1, 1, 2, 2, 3], [slower_count(THREE_DISCS, pace) for pace in paces])
        self.assertEqual([0, 1, 1, 2],
                         [slower_count(TWO_DISCS, pace) for pace in ((0, 1), (1, 10 ** 300), (2, 1),
                                                                     (10 ** 300 + 1, 10 ** 300 // 2))])

    def test_one_disc(self):
        self.assertEqual([0, 1], [slower_count(((ONE,), (NONE, NONE)), pace) for pace in ((0, 1), (1, 10 ** 9))])
        self.assertEqual([0, 0, 1], [slower_count(((ONE,), (ONE, ONE)), pace) for pace in ((1, 1), (2, 1), (3, 1))])

    def test_noughts_in_the_run(self):
        # At 1 the second angle of three like discs is 0, and so is the end.
        self.assertEqual(0, oracle.value(run_of(THREE_DISCS)[1], 1))
        self.assertEqual(1, slower_count(THREE_DISCS, (1, 1)))
        # At 2 the second angle of a held line is 0, and the end is none.
        self.assertEqual((0, -1), tuple(oracle.value(each, 2) for each in run_of(HELD)[1:]))
        self.assertEqual(1, slower_count(HELD, (2, 1)))

    def test_as_sylvester_tells(self):
        chance = random.Random(35)
        for _ in range(150):
            line = random_line(chance)
            paces = [Fraction(chance.randint(0, 30), chance.randint(1, 6)) for _ in range(3)]
            paces += [Fraction(*point) for point in paces_of(line) if type(point[0]) is int]
            for pace in paces:
                self.assertEqual(oracle.slower(line, pace), slower_count(line, told(pace)))

    def test_paces_below_nought_are_refused(self):
        with self.assertRaises(InvalidPace) as caught:
            slower_count(THREE_DISCS, (-1, 2))
        self.assertEqual((-1, 2), caught.exception.given)


class Compared(unittest.TestCase):
    def test_with_points(self):
        self.assertEqual([-1, 0], [compare_pace(HELD, 0, (1, 2)), compare_pace(THREE_DISCS, 1, (1, 1))])
        self.assertEqual([0, 1], [compare_pace(HELD, index, ((1, -3, 1), 0)) for index in (0, 1)])
        self.assertEqual([-1, 0], [compare_pace(HELD, index, ((1, -3, 1), 1)) for index in (0, 1)])
        # The same number as a root of (L * L - 3 L + 1) * (L * L - 2).
        self.assertEqual([0, 1], [compare_pace(HELD, index, ((-2, 6, -1, -3, 1), 1)) for index in (0, 1)])

    def test_with_points_below_nought(self):
        for point in ((-1, 1), (-1, 10 ** 200), ((-2, 0, 1), 0)):
            for line in (THREE_DISCS, HELD, TWO_DISCS):
                self.assertEqual([1] * len(line[0]),
                                 [compare_pace(line, index, point) for index in range(len(line[0]))])

    def test_with_nought(self):
        self.assertEqual([0, 1, 1], [compare_pace(THREE_DISCS, index, NONE) for index in range(3)])
        self.assertEqual([1, 1], [compare_pace(HELD, index, NONE) for index in range(2)])

    def test_with_own_paces(self):
        chance = random.Random(36)
        for _ in range(30):
            line = random_line(chance)
            for place, point in enumerate(paces_of(line)):
                self.assertEqual([sign(index - place) for index in range(len(line[0]))],
                                 [compare_pace(line, index, point) for index in range(len(line[0]))])

    def test_with_other_lines(self):
        self.assertEqual([-1, 1], [compare_swings(HELD, 1, THREE_DISCS, 2), compare_swings(TWO_DISCS, 1, HELD, 0)])
        self.assertEqual([0, 0],
                         [compare_swings(THREE_DISCS, 0, TWO_DISCS, 0), compare_swings(EIGHT, 4, TWO_DISCS, 1)])
        chance = random.Random(37)
        for _ in range(40):
            line, other = random_line(chance), random_line(chance)
            index, number = chance.randrange(len(line[0])), chance.randrange(len(other[0]))
            self.assertEqual(compare_points(paces_of(line)[index], paces_of(other)[number]),
                             compare_swings(line, index, other, number))

    def test_paces_that_are_very_near(self):
        near = 10 ** 100
        almost = ((ONE, (near + 1, near)), (ONE, ONE, NONE))
        self.assertEqual([-1, -1], [compare_swings(almost, index, HELD, index) for index in range(2)])
        self.assertEqual([1, 1], [compare_swings(HELD, index, almost, index) for index in range(2)])
        self.assertEqual([-1, -1], [compare_pace(almost, index, ((1, -3, 1), index)) for index in range(2)])


class Mirrored(unittest.TestCase):
    def test_ordinary(self):
        line = (((1, 1), (2, 1), (3, 1)), ((4, 1), (5, 1), (6, 1), (7, 1)))
        self.assertEqual((((3, 1), (2, 1), (1, 1)), ((7, 1), (6, 1), (5, 1), (4, 1))), mirrored_line(line))

    def test_it_has_the_same_paces(self):
        chance = random.Random(38)
        for _ in range(40):
            line = random_line(chance)
            mirrored = mirrored_line(line)
            self.assertEqual(line, mirrored_line(mirrored))
            self.assertEqual(paces_of(line), paces_of(mirrored))
            for index in range(len(line[0])):
                self.assertEqual(0, compare_swings(line, index, mirrored, index))

    def test_a_line_times_a_number_has_the_same_run_and_paces(self):
        chance = random.Random(39)
        for _ in range(40):
            line = random_line(chance)
            for times in (Fraction(3), Fraction(2, 7), Fraction(10 ** 50, 3)):
                other = tuple(tuple(told(Fraction(*number) * times) for number in row) for row in line)
                self.assertEqual(run_of(line), run_of(other))
                self.assertEqual(paces_of(line), paces_of(other))


class WrongOnes(unittest.TestCase):
    def test_index_and_number(self):
        for index in (2, -1, True, None, (0, 1)):
            with self.assertRaises(InvalidIndex) as caught:
                compare_pace(HELD, index, None)
            self.assertIs(index, caught.exception.given)
            with self.assertRaises(InvalidNumber) as caught:
                compare_swings(THREE_DISCS, 2, HELD, index)
            self.assertIs(index, caught.exception.given)
        self.assertEqual(0, compare_swings(THREE_DISCS, 2, THREE_DISCS, 2))

    def test_in_the_order_of_the_signature(self):
        self.assertRaises(InvalidLine, compare_swings, None, None, None, None)
        self.assertRaises(InvalidIndex, compare_swings, HELD, 2, None, None)
        self.assertRaises(InvalidLine, compare_swings, HELD, 1, ((), ()), None)
        self.assertRaises(InvalidPoint, compare_pace, HELD, 1, ((1, -3, 1), 2))


if __name__ == "__main__":
    unittest.main()
