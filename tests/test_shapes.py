"""Shapes: signs, discs that rest, untwisted shafts, places at rest, how far discs turn."""

import random
import unittest
from fractions import Fraction

import oracle
from chance import random_line, sign, told
from shaftshakes.errors import InvalidDisc, InvalidIndex, InvalidLine, InvalidNumber, InvalidShaft
from shaftshakes.lines import compare_pace, mirrored_line, paces_of
from shaftshakes.points import enclosed
from shaftshakes.shapes import compare_turns, rest_places, rest_share, resting_discs, signs_of, untwisted_shafts

ONE, NONE = (1, 1), (0, 1)
TWO_DISCS = ((ONE, ONE), (NONE, ONE, NONE))
THREE_DISCS = ((ONE, ONE, ONE), (NONE, ONE, ONE, NONE))
HELD = ((ONE, ONE), (ONE, ONE, NONE))
SINGLE = ((ONE,), (NONE, NONE))
FIVE = ((ONE,) * 5, (NONE,) + (ONE,) * 4 + (NONE,))
SMALL = Fraction(1, 10 ** 25)


def angles_of(line, index):
    """The angles in a swing, but for a part of them that is very small."""
    point = paces_of(line)[index]
    if type(point[0]) is int:
        return oracle.angles(line, Fraction(*point))
    low, high = enclosed(point, (1, 10 ** 60))
    return oracle.angles(line, (Fraction(*low) + Fraction(*high)) / 2)


def sign_told(number):
    return sign(number) if abs(number) > SMALL else 0


class Signs(unittest.TestCase):
    def test_ordinary(self):
        self.assertEqual([(1, 1, 1), (1, 0, -1), (1, -1, 1)], [signs_of(THREE_DISCS, index) for index in range(3)])
        self.assertEqual([(1, 1), (1, -1)], [signs_of(HELD, index) for index in range(2)])
        self.assertEqual((1,), signs_of(SINGLE, 0))

    def test_discs_that_rest_where_the_pace_is_no_fraction(self):
        # Five like discs: the middle one rests in the swings 1 and 3, whose paces are no fractions.
        self.assertEqual([(), (2,), (), (2,), ()], [resting_discs(FIVE, index) for index in range(5)])
        self.assertEqual((1, 1, 0, -1, -1), signs_of(FIVE, 1))
        self.assertEqual((1, -1, 0, 1, -1), signs_of(FIVE, 3))
        self.assertIs(tuple, type(paces_of(FIVE)[1][0]))

    def test_as_the_angles_tell(self):
        chance = random.Random(41)
        for _ in range(60):
            line = random_line(chance)
            size = len(line[0])
            index = chance.randrange(size)
            angles = angles_of(line, index)
            signs = signs_of(line, index)
            self.assertEqual(tuple(sign_told(angle) for angle in angles), signs)
            self.assertEqual(tuple(disc for disc in range(size) if signs[disc] == 0), resting_discs(line, index))
            still = [shaft for shaft in range(1, size) if abs(angles[shaft] - angles[shaft - 1]) < SMALL]
            self.assertEqual(tuple(still), untwisted_shafts(line, index))

    def test_first_and_last_disc_never_rest_and_no_two_neighbours_do(self):
        chance = random.Random(42)
        for _ in range(40):
            line = random_line(chance)
            for index in range(len(line[0])):
                signs = signs_of(line, index)
                self.assertEqual(1, signs[0])
                self.assertNotEqual(0, signs[-1])
                self.assertNotIn((0, 0), list(zip(signs, signs[1:])))

    def test_the_mirrored_line_goes_the_same_way_from_its_other_end(self):
        chance = random.Random(43)
        for _ in range(30):
            line = random_line(chance)
            for index in range(len(line[0])):
                signs = signs_of(line, index)
                other = signs_of(mirrored_line(line), index)
                self.assertEqual(signs, tuple(each * signs[0] * other[-1] for each in other[::-1]))


class Untwisted(unittest.TestCase):
    def test_ordinary(self):
        self.assertEqual([(1, 2), (), ()], [untwisted_shafts(THREE_DISCS, index) for index in range(3)])
        self.assertEqual((), untwisted_shafts(SINGLE, 0))
        self.assertEqual(tuple(range(1, 5)), untwisted_shafts(FIVE, 0))

    def test_end_shafts_never_are(self):
        line = ((ONE, ONE), (ONE, ONE, ONE))
        self.assertEqual([(1,), ()], [untwisted_shafts(line, index) for index in range(2)])

    def test_where_the_pace_is_no_fraction(self):
        # The same from both ends, an even number of discs: the middle shaft is untwisted in every second swing.
        line = ((ONE,) * 4, (ONE, ONE, (3, 1), ONE, ONE))
        self.assertIs(tuple, type(paces_of(line)[0][0]))
        self.assertEqual([(2,), (), (2,), ()], [untwisted_shafts(line, index) for index in range(4)])


class Places(unittest.TestCase):
    def test_ordinary(self):
        self.assertEqual([(), (("disc", 1),), (("shaft", 1), ("shaft", 2))],
                         [rest_places(THREE_DISCS, index) for index in range(3)])
        self.assertEqual((("shaft", 1), ("disc", 2), ("shaft", 4)), rest_places(FIVE, 3))
        self.assertEqual((), rest_places(SINGLE, 0))

    def test_swing_k_has_k_of_them_where_the_angle_is_nought(self):
        chance = random.Random(44)
        for _ in range(50):
            line = random_line(chance)
            for index in range(len(line[0])):
                angles = angles_of(line, index)
                found = rest_places(line, index)
                self.assertEqual(index, len(found))
                self.assertEqual(sorted(found, key=lambda place: (2 * place[1] - (place[0] == "shaft"))), list(found))
                for kind, place in found:
                    if kind == "disc":
                        self.assertLess(abs(angles[place]), SMALL)
                    else:
                        self.assertLess(angles[place - 1] * angles[place], 0)

    def test_between_two_of_the_next_swing_lies_just_one(self):
        chance = random.Random(45)
        many = 10 ** 12
        for _ in range(25):
            line = random_line(chance)
            above = None
            for index in range(len(line[0])):
                places = []
                for kind, place in rest_places(line, index):
                    share = rest_share(line, index, place, many)[0] - many if kind == "shaft" else 0
                    places.append(place * many + share)
                if above is not None:
                    merged = sorted([(place, 0) for place in above] + [(place, 1) for place in places])
                    self.assertEqual([1 - turn % 2 for turn in range(len(merged))], [kind for _, kind in merged])
                above = places


class Shares(unittest.TestCase):
    def test_ordinary(self):
        self.assertEqual([(1, True), (3, False)], [rest_share(THREE_DISCS, 2, 1, many) for many in (3, 10)])
        self.assertEqual([(2, True), (6, False)], [rest_share(THREE_DISCS, 2, 2, many) for many in (3, 10)])
        self.assertEqual([(0, False), (1, True), (1, False)],
                         [rest_share(TWO_DISCS, 1, 1, many) for many in (1, 2, 3)])
        self.assertEqual((10 ** 12 // 2, True), rest_share(TWO_DISCS, 1, 1, 10 ** 12))

    def test_where_the_share_is_a_fraction_and_the_pace_is_none(self):
        # The same from both ends: the place at rest of the second swing is in the middle of the middle shaft.
        line = ((ONE,) * 4, (ONE, ONE, (3, 1), ONE, ONE))
        self.assertIs(tuple, type(paces_of(line)[1][0]))
        self.assertEqual([(0, False), (1, True), (1, False), (2, True), (500000000000, True)],
                         [rest_share(line, 1, 2, many) for many in (1, 2, 3, 4, 10 ** 12)])

    def test_as_the_angles_tell(self):
        chance = random.Random(46)
        for _ in range(60):
            line = random_line(chance)
            index = chance.randrange(len(line[0]))
            angles = angles_of(line, index)
            for kind, shaft in rest_places(line, index):
                if kind == "disc":
                    continue
                many = chance.choice([1, 2, 3, 10, 60, 10 ** 12, chance.randint(1, 10 ** 12)])
                share = many * angles[shaft - 1] / (angles[shaft - 1] - angles[shaft])
                nearest = round(share)
                is_just = abs(share - nearest) < Fraction(1, 10 ** 12)
                self.assertEqual((nearest if is_just else share.__floor__(), is_just),
                                 rest_share(line, index, shaft, many))

    def test_a_shaft_without_a_place_is_refused(self):
        for line, index, shaft in ((THREE_DISCS, 0, 1), (THREE_DISCS, 1, 1), (THREE_DISCS, 1, 2), (THREE_DISCS, 2, 0),
                                   (THREE_DISCS, 2, 3), (THREE_DISCS, 2, 4), (THREE_DISCS, 2, -1), (SINGLE, 0, 0),
                                   (SINGLE, 0, 1), (FIVE, 3, 2), (FIVE, 3, 3)):
            for many in (3, 0):
                with self.assertRaises(InvalidShaft) as caught:
                    rest_share(line, index, shaft, many)
                self.assertIs(shaft, caught.exception.given)

    def test_many_is_refused_last(self):
        for many in (0, -1, 10 ** 12 + 1, None, True, (1, 1), "2"):
            with self.assertRaises(InvalidNumber) as caught:
                rest_share(THREE_DISCS, 2, 1, many)
            self.assertIs(many, caught.exception.given)
        self.assertRaises(InvalidLine, rest_share, None, 9, 9, 0)
        self.assertRaises(InvalidIndex, rest_share, THREE_DISCS, 9, 9, 0)


class Turns(unittest.TestCase):
    def test_ordinary(self):
        self.assertEqual([-1, 1, 0, 0],
                         [compare_turns(THREE_DISCS, 2, *discs) for discs in ((0, 1), (1, 0), (0, 2), (1, 1))])
        self.assertEqual([1, -1, 0], [compare_turns(THREE_DISCS, 1, *discs) for discs in ((0, 1), (1, 2), (2, 0))])
        self.assertEqual([0, 0], [compare_turns(THREE_DISCS, 0, *discs) for discs in ((0, 1), (1, 2))])
        self.assertEqual(0, compare_turns(SINGLE, 0, 0, 0))

    def test_same_from_both_ends(self):
        for index in range(5):
            self.assertEqual([0, 0], [compare_turns(FIVE, index, *discs) for discs in ((0, 4), (3, 1))])

    def test_as_the_angles_tell(self):
        chance = random.Random(47)
        for _ in range(60):
            line = random_line(chance)
            index = chance.randrange(len(line[0]))
            angles = angles_of(line, index)
            for _ in range(3):
                disc, other = chance.randrange(len(angles)), chance.randrange(len(angles))
                self.assertEqual(sign_told(abs(angles[disc]) - abs(angles[other])),
                                 compare_turns(line, index, disc, other))

    def test_wrong_discs(self):
        for disc in (3, -1, None, True, (0, 1)):
            with self.assertRaises(InvalidDisc) as caught:
                compare_turns(THREE_DISCS, 1, disc, "no")
            self.assertIs(disc, caught.exception.given)
            with self.assertRaises(InvalidDisc) as caught:
                compare_turns(THREE_DISCS, 1, 0, disc)
            self.assertIs(disc, caught.exception.given)


class Quotients(unittest.TestCase):
    """The slowest pace is at most, the fastest one at least, the quotient of each shape."""

    def quotient(self, line, shape):
        ends = (0,) + shape + (0,)
        shafts = sum(Fraction(*number) * (ends[place + 1] - ends[place]) ** 2 for place, number in enumerate(line[1]))
        return told(shafts / sum(Fraction(*number) * angle ** 2 for number, angle in zip(line[0], shape)))

    def test_ordinary(self):
        self.assertEqual((3, 1), self.quotient(THREE_DISCS, (1, -2, 1)))
        self.assertEqual(0, compare_pace(THREE_DISCS, 2, self.quotient(THREE_DISCS, (1, -2, 1))))
        self.assertEqual(0, compare_pace(THREE_DISCS, 0, self.quotient(THREE_DISCS, (7, 7, 7))))

    def test_each_shape(self):
        chance = random.Random(48)
        for _ in range(100):
            line = random_line(chance)
            shape = tuple(chance.randint(-4, 4) for _ in line[0])
            if any(shape):
                quotient = self.quotient(line, shape)
                self.assertLessEqual(compare_pace(line, 0, quotient), 0)
                self.assertGreaterEqual(compare_pace(line, len(shape) - 1, quotient), 0)


if __name__ == "__main__":
    unittest.main()
