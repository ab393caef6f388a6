"""Swallowers: machines with one more small disc, what it quiets, and for which inertias."""

import random
import unittest
from fractions import Fraction

import oracle
from chance import random_line, random_machine, random_number, told
from shaftshakes.answers import still_paces
from shaftshakes.errors import InvalidAmount, InvalidDisc, InvalidMachine, InvalidPace, InvalidStock, TooManyDiscs
from shaftshakes.lines import paces_of
from shaftshakes.machines import hidden_paces, is_machine, machine_end, machine_of, machine_paces, rerooted
from shaftshakes.machines import root_answer, slower_in
from shaftshakes.points import compare_points, sign_at
from shaftshakes.swallowers import is_quiet, quiet_from, quiet_ones, still_paces_at, tuned_inertia, with_swallower

ONE, NONE, FOUR = (1, 1), (0, 1), (4, 1)
LONE = ((ONE, FOUR),)
TWIG = (ONE, NONE, 0, ONE, ONE)
STAR = ((ONE, NONE), TWIG, TWIG, TWIG)
EIGHT = STAR + (TWIG,) * 4
GEARED = ((ONE, NONE), (ONE, NONE, 0, ONE, (2, 1)))


def hung(machine, disc, tuned, inertia):
    """The machine with a swallower that is tuned to a pace."""
    stiffness = told(Fraction(*tuned) * Fraction(*inertia))
    return machine + ((inertia, NONE, disc, stiffness, ONE),)


def quiet(machine, low, high):
    """Whether no pace lies from low up to high, as Sylvester's squares of the table tell."""
    below = oracle.squares(oracle.machine_table(machine, Fraction(*low)))[0]
    return sum(oracle.squares(oracle.machine_table(machine, Fraction(*high)))) == below


def times(fraction, other):
    return told(Fraction(*fraction) * Fraction(other))


def random_span(chance, most=9):
    low = Fraction(*random_number(chance, most)) * chance.choice([0, 1, 1])
    return told(low), told(low + Fraction(*random_number(chance, most)))


class Hung(unittest.TestCase):
    def test_ordinary(self):
        self.assertEqual(((ONE, FOUR), ((1, 12), NONE, 0, (1, 3), ONE)), with_swallower(LONE, 0, (1, 12), (1, 3)))
        self.assertEqual(GEARED + (((2, 3), NONE, 1, (5, 7), ONE),), with_swallower(GEARED, 1, (2, 3), (5, 7)))
        self.assertIs(True, is_machine(with_swallower(EIGHT[:7], 6, ONE, ONE)))

    def test_eight_discs_have_no_room(self):
        self.assertRaises(TooManyDiscs, with_swallower, EIGHT, 0, ONE, ONE)
        self.assertRaises(InvalidDisc, with_swallower, EIGHT, 8, ONE, ONE)
        self.assertRaises(InvalidAmount, with_swallower, EIGHT, 0, NONE, ONE)
        self.assertRaises(InvalidAmount, with_swallower, EIGHT, 0, ONE, NONE)

    def test_the_disc_rests_at_what_it_is_tuned_to(self):
        chance = random.Random(1101)
        for _ in range(40):
            machine = random_machine(chance, chance.randint(1, 7))
            disc, tuned, inertia = chance.randrange(len(machine)), random_number(chance, 6), random_number(chance, 6)
            other = with_swallower(machine, disc, inertia, times(inertia, Fraction(*tuned)))
            self.assertEqual(hung(machine, disc, tuned, inertia), other)
            self.assertIn(tuned, still_paces_at(other, disc))
            # Where the disc was still without it, the pace it is tuned to is a hidden one.
            hidden = [point for point, _ in hidden_paces(rerooted(other, disc))]
            was = [point for point, _ in hidden_paces(rerooted(machine, disc))]
            self.assertEqual(tuned in still_paces_at(machine, disc) or tuned in was, tuned in hidden)

    def test_its_paces_are_those_that_meet_the_answer(self):
        chance = random.Random(1102)
        for _ in range(40):
            machine = random_machine(chance, chance.randint(1, 7))
            disc, tuned, inertia = chance.randrange(len(machine)), random_number(chance, 6), random_number(chance, 6)
            end = machine_end(hung(machine, disc, tuned, inertia))
            num, den = root_answer(rerooted(machine, disc))
            hidden = rerooted(machine, disc)
            for pace in [random_number(chance, 9) for _ in range(4)]:
                x, p, weight = Fraction(*pace), Fraction(*tuned), Fraction(*inertia)
                if x == p:
                    continue
                meets = (p - x) * oracle.value(den, x) == x * p * weight * oracle.value(num, x)
                is_hidden = any(compare_points(point, pace) == 0 for point, _ in hidden_paces(hidden))
                self.assertEqual(meets or is_hidden, sign_at(end, pace) == 0)


class Still(unittest.TestCase):
    def test_ordinary(self):
        self.assertEqual([(ONE,), ()], [still_paces_at(STAR, 0), still_paces_at(LONE, 0)])
        # Seen from a twig, of which the root and the two other ones are left when it is held.
        self.assertEqual([0, 0], [sign_at(root_answer(rerooted(STAR, 1))[0], point) for point in still_paces_at(STAR, 1)])
        self.assertEqual((ONE,), still_paces_at(EIGHT, 0))
        # The root answers through its own shaft of stiffness 4 for it; the other disc through 1.
        self.assertEqual([(ONE,), (FOUR,)], [still_paces_at(GEARED, 0), still_paces_at(GEARED, 1)])

    def test_knots(self):
        line = ((ONE, ONE, ONE), (ONE, ONE, ONE, NONE))
        self.assertEqual((((1, -3, 1), 0), ((1, -3, 1), 1)), still_paces_at(machine_of(line), 0))
        self.assertEqual((ONE, (2, 1)), still_paces_at(machine_of(line), 1))

    def test_as_the_answer_tells(self):
        chance = random.Random(1103)
        for _ in range(40):
            machine = random_machine(chance)
            disc = chance.randrange(len(machine))
            found = still_paces_at(machine, disc)
            num, den = root_answer(rerooted(machine, disc))
            self.assertEqual(len(num) - 1, len(found))
            for place, point in enumerate(found):
                self.assertEqual((0, 1), (sign_at(num, point), abs(sign_at(den, point))))
                self.assertEqual(1, compare_points(point, found[place - 1] if place else NONE))

    def test_a_line_told_as_a_machine(self):
        chance = random.Random(1104)
        for _ in range(25):
            line = random_line(chance)
            machine = machine_of(line)
            for disc in range(len(line[0])):
                self.assertEqual(still_paces(line, disc, disc), still_paces_at(machine, disc))
            self.assertEqual(tuple((point, 1) for point in paces_of(line)), machine_paces(machine))


class Tuned(unittest.TestCase):
    def test_ordinary(self):
        self.assertEqual((1, 12), tuned_inertia(LONE, 0, FOUR, (3, 1)))
        self.assertEqual((1, 20), tuned_inertia(LONE, 0, FOUR, (5, 1)))
        self.assertEqual((1, 8), tuned_inertia(STAR, 0, FOUR, (3, 1)))
        self.assertEqual((1, 16), tuned_inertia(STAR, 0, FOUR, (5, 1)))

    def test_none(self):
        # What it is tuned to, 0, and paces on the wrong side of 1 / H = 4 - L.
        for pace in (FOUR, NONE):
            self.assertIsNone(tuned_inertia(LONE, 0, FOUR, pace))
        self.assertIsNone(tuned_inertia(LONE, 0, (6, 1), (5, 1)))
        self.assertIsNone(tuned_inertia(LONE, 0, (3, 1), (7, 2)))
        # The answer is endless, and the answer is 0.
        self.assertIsNone(tuned_inertia(LONE, 0, (3, 1), FOUR))
        self.assertIsNone(tuned_inertia(STAR, 0, (3, 1), FOUR))
        self.assertIsNone(tuned_inertia(STAR, 0, (3, 1), ONE))
        self.assertIsNone(tuned_inertia(STAR, 0, ONE, NONE))

    def test_a_machine_of_eight(self):
        # H = (1 - L) / (L (L - 8)), at 9 it is - 8 / 9.
        self.assertEqual((1, 64), tuned_inertia(EIGHT, 0, (8, 1), (9, 1)))

    def test_with_it_and_with_no_other_one(self):
        chance = random.Random(1105)
        found, missing = 0, 0
        for _ in range(60):
            machine = random_machine(chance, chance.randint(1, 7))
            disc, tuned = chance.randrange(len(machine)), random_number(chance, 6)
            own = [told(k) for k in range(12) if oracle.squares(oracle.machine_table(machine, k))[1]]
            for pace in [random_number(chance, 9), random_number(chance, 3)] + own[:2]:
                inertia = tuned_inertia(machine, disc, tuned, pace)
                if pace in (tuned, NONE):
                    self.assertIsNone(inertia)
                    continue
                tried = [random_number(chance, 30), (1, 10 ** 20), (10 ** 20, 1)]
                if inertia is not None:
                    found += 1
                    _, den = root_answer(rerooted(hung(machine, disc, tuned, inertia), disc))
                    self.assertEqual(0, sign_at(den, pace))
                    near = Fraction(*inertia) / 10 ** 20
                    tried += [told(Fraction(*inertia) - near), told(Fraction(*inertia) + near)]
                else:
                    missing += 1
                for other in tried:
                    if other != inertia:
                        _, den = root_answer(rerooted(hung(machine, disc, tuned, other), disc))
                        self.assertNotEqual(0, sign_at(den, pace))
        self.assertGreater(found, 30)
        self.assertGreater(missing, 30)

    def test_as_it_grows_paces_move_away(self):
        chance = random.Random(1106)
        for _ in range(25):
            machine = random_machine(chance, chance.randint(1, 6))
            disc, tuned = chance.randrange(len(machine)), random_number(chance, 6)
            light = random_number(chance, 9)
            heavy = times(light, 1 + Fraction(*random_number(chance, 9)))
            rows = []
            for inertia in (light, heavy):
                paces = machine_paces(rerooted(hung(machine, disc, tuned, inertia), disc))
                rows.append([point for point, many in paces for _ in range(many)])
            hidden = [point for point, many in hidden_paces(rerooted(hung(machine, disc, tuned, light), disc))]
            for first, second in zip(*rows):
                kept = any(compare_points(first, point) == 0 for point in hidden)
                move = compare_points(second, first)
                if first == NONE or (kept and move == 0):
                    self.assertEqual(0, move)
                elif compare_points(first, tuned) < 0:
                    self.assertEqual(-1, move)
                else:
                    self.assertEqual(1, move)


class Quiet(unittest.TestCase):
    def test_ordinary(self):
        self.assertIs(True, is_quiet(with_swallower(LONE, 0, (1, 6), (2, 3)), (3, 1), (5, 1)))
        self.assertIs(False, is_quiet(with_swallower(LONE, 0, (1, 12), (1, 3)), (3, 1), (5, 1)))
        self.assertEqual([True, False, False, False, True],
                         [is_quiet(LONE, *span) for span in ((NONE, (3, 1)), (NONE, FOUR), (FOUR, (5, 1)),
                                                             ((3, 1), (5, 1)), ((5, 1), (6, 1)))])

    def test_ends_belong_to_it(self):
        self.assertEqual([False, True, False, False, True],
                         [is_quiet(STAR, *span) for span in ((NONE, (1, 2)), ((1, 2), (3, 4)), ((1, 2), ONE),
                                                             (ONE, (3, 2)), ((3, 2), (7, 2)))])
        self.assertIs(False, is_quiet(EIGHT, (1, 2), (3, 2)))
        self.assertIs(True, is_quiet(EIGHT, (3, 2), (7, 1)))

    def test_as_the_table_tells(self):
        chance = random.Random(1107)
        found = []
        for _ in range(80):
            machine = random_machine(chance)
            low, high = random_span(chance, chance.choice([2, 5, 9]))
            found.append(is_quiet(machine, low, high))
            self.assertIs(quiet(machine, low, high), found[-1])
            self.assertIs(slower_in(machine, high) == slower_in(machine, low)
                          and sign_at(machine_end(machine), high) != 0, found[-1])
        self.assertGreater(min(found.count(True), found.count(False)), 15)


class From(unittest.TestCase):
    def test_ordinary(self):
        self.assertEqual((1, 12), quiet_from(LONE, 0, FOUR, (3, 1), (5, 1)))
        self.assertEqual((1, 8), quiet_from(STAR, 0, FOUR, (3, 1), (5, 1)))
        self.assertEqual((1, 64), quiet_from(EIGHT, 0, (8, 1), (15, 2), (9, 1)))

    def test_one_end_counts_alone(self):
        # 1 / H = 4 - L is above 0 up to 4, and below 0 beyond: (2 - 1) / (2 * 1 / 3), (6 - 7) / (6 * 7 * -1 / 3).
        self.assertEqual((3, 2), quiet_from(LONE, 0, (2, 1), ONE, (3, 1)))
        self.assertEqual((1, 14), quiet_from(LONE, 0, (6, 1), (5, 1), (7, 1)))

    def test_a_still_pace_in_it(self):
        # At both ends, within, just outside.
        self.assertIsNone(quiet_from(STAR, 0, ONE, (1, 2), (2, 1)))
        self.assertIsNone(quiet_from(STAR, 0, (2, 1), ONE, (3, 1)))
        self.assertIsNone(quiet_from(STAR, 0, (1, 2), (1, 3), ONE))
        self.assertIsNotNone(quiet_from(STAR, 0, (2, 1), (1001, 1000), (3, 1)))
        self.assertIsNotNone(quiet_from(STAR, 0, (1, 2), (1, 3), (999, 1000)))

    def test_a_hidden_pace_in_it(self):
        # A twig does not show 1, at which the two other ones swing against one another; its own still paces are not 1.
        self.assertEqual([ONE], [point for point, _ in hidden_paces(rerooted(STAR, 1))])
        self.assertNotIn(ONE, still_paces_at(STAR, 1))
        for tuned, low, high in ((ONE, (9, 10), (11, 10)), ((11, 10), ONE, (6, 5)), ((9, 10), (4, 5), ONE)):
            self.assertIsNone(quiet_from(STAR, 1, tuned, low, high))
        self.assertIsNotNone(quiet_from(STAR, 1, (11, 10), (1001, 1000), (6, 5)))
        self.assertIsNotNone(quiet_from(STAR, 1, (9, 10), (4, 5), (999, 1000)))

    def test_endless_at_an_end(self):
        # At 4 lone is endless: just the other end counts, (5 - 6) / (5 * 6 * -1 / 2) or (3 - 2) / (3 * 2 * 1 / 2).
        self.assertEqual((1, 15), quiet_from(LONE, 0, (5, 1), FOUR, (6, 1)))
        self.assertEqual((1, 3), quiet_from(LONE, 0, (3, 1), (2, 1), FOUR))
        self.assertIs(True, quiet(hung(LONE, 0, (5, 1), (1, 14)), FOUR, (6, 1)))
        self.assertIs(False, quiet(hung(LONE, 0, (5, 1), (1, 15)), FOUR, (6, 1)))

    def test_for_all_inertias(self):
        chance = random.Random(1108)
        found, missing = 0, 0
        for _ in range(150):
            machine = random_machine(chance, chance.randint(1, 7))
            disc = chance.randrange(len(machine))
            points = sorted({Fraction(*random_number(chance, 8)) for _ in range(6)})[:3]
            if len(points) < 3:
                continue
            own = [Fraction(k) for k in range(1, 9) if oracle.squares(oracle.machine_table(machine, k))[1]]
            if own and chance.random() < 0.5:
                points = sorted([own[0], own[0] + Fraction(1, 9), own[0] + chance.choice([1, -1]) * Fraction(1, 3)])
            low, tuned, high = map(told, points)
            least = quiet_from(machine, disc, tuned, low, high)
            if least is None:
                missing += 1
                for inertia in ((1, 10 ** 9), random_number(chance, 20), (10 ** 9, 1)):
                    self.assertIs(False, quiet(hung(machine, disc, tuned, inertia), low, high))
                continue
            found += 1
            for factor in (1, 1 - Fraction(1, 10 ** 9), Fraction(1, 2), Fraction(1, 10 ** 9)):
                self.assertIs(False, quiet(hung(machine, disc, tuned, times(least, factor)), low, high))
            for factor in (1 + Fraction(1, 10 ** 9), 2, 10 ** 9):
                self.assertIs(True, quiet(hung(machine, disc, tuned, times(least, factor)), low, high))
        self.assertGreater(min(found, missing), 30)


class Stock(unittest.TestCase):
    def test_ordinary(self):
        stock = ((0, (1, 6), (2, 3)), (0, (1, 20), (1, 5)))
        self.assertEqual((0,), quiet_ones(LONE, stock, (3, 1), (5, 1)))
        self.assertEqual((), quiet_ones(LONE, stock[1:], (3, 1), (5, 1)))
        self.assertEqual((1,), quiet_ones(LONE, stock[::-1], (3, 1), (5, 1)))
        # Each is hung alone, also the same one twice.
        self.assertEqual((0, 2, 3), quiet_ones(LONE, (stock[0], stock[1], stock[0], stock[0]), (3, 1), (5, 1)))

    def test_one_and_eight(self):
        good = (0, (1, 6), (2, 3))
        self.assertEqual((0,), quiet_ones(LONE, (good,), (3, 1), (5, 1)))
        self.assertEqual(tuple(range(8)), quiet_ones(LONE, (good,) * 8, (3, 1), (5, 1)))

    def test_as_each_alone(self):
        chance = random.Random(1109)
        for _ in range(25):
            machine = random_machine(chance, chance.randint(1, 7))
            low, high = random_span(chance, 3)
            stock = tuple((chance.randrange(len(machine)), random_number(chance, 9), random_number(chance, 9))
                          for _ in range(chance.randint(1, 8)))
            alone = [k for k, one in enumerate(stock) if is_quiet(with_swallower(machine, *one), low, high)]
            self.assertEqual(tuple(alone), quiet_ones(machine, stock, low, high))

    def test_wrong_stocks(self):
        good = (0, ONE, ONE)
        wrong = [((), None), (None, None), ([good], None), ("ab", None), (good, 0), ((good,) * 9, 8),
                 ((good,) * 8 + (None,), 8), ((good, None) + (good,) * 7, 1), (([0, ONE, ONE],), 0),
                 ((good, (1, ONE, ONE)), 1), ((good, (-1, ONE, ONE)), 1), (((True, ONE, ONE),), 0), (((None, ONE, ONE),), 0),
                 (((False, ONE, ONE),), 0), ((good, good, (0, NONE, ONE)), 2), (((0, ONE, NONE),), 0),
                 (((0, ONE, (2, 2)),), 0), (((0, (-1, 1), ONE),), 0), (((0, ONE),), 0), (((0, ONE, ONE, ONE),), 0),
                 ((((0, 1), ONE, ONE),), 0), (((0, 1, 1),), 0)]
        for stock, index in wrong:
            for machine in (LONE, EIGHT):
                if machine is EIGHT and stock == (good, (1, ONE, ONE)):
                    continue
                with self.assertRaises(InvalidStock) as caught:
                    quiet_ones(machine, stock, (3, 1), (2, 1))
                self.assertEqual(index, caught.exception.index)

    def test_eight_discs_come_last(self):
        good = (7, ONE, ONE)
        self.assertRaises(TooManyDiscs, quiet_ones, EIGHT, (good,), ONE, FOUR)
        self.assertRaises(InvalidPace, quiet_ones, EIGHT, (good,), FOUR, ONE)
        self.assertRaises(InvalidPace, quiet_ones, EIGHT, (good,), (-1, 1), ONE)
        self.assertRaises(InvalidStock, quiet_ones, EIGHT, ((8, ONE, ONE),), ONE, FOUR)


class WrongOnes(unittest.TestCase):
    def check(self, error, given, function, *arguments):
        with self.assertRaises(error) as caught:
            function(*arguments)
        self.assertIs(given, caught.exception.given)

    def test_paces(self):
        for pace in ((-1, 1), None, (2, 4), 3, True):
            self.check(InvalidPace, pace, tuned_inertia, STAR, 0, ONE, pace)
        for tuned in (NONE, (-1, 1), None, (2, 4), 3, True, ((-2, 0, 1), 1)):
            self.check(InvalidPace, tuned, tuned_inertia, STAR, 0, tuned, (-1, 1))
            self.check(InvalidPace, tuned, quiet_from, STAR, 0, tuned, (-1, 1), (-1, 1))
        for low in (NONE, (-1, 1), None, (2, 4), (3, 1), (7, 2), FOUR):
            self.check(InvalidPace, low, quiet_from, STAR, 0, (3, 1), low, NONE)
        for high in (NONE, (-1, 1), None, (2, 4), (3, 1), (2, 1), ONE, (5, 2)):
            self.check(InvalidPace, high, quiet_from, STAR, 0, (3, 1), (2, 1), high)
        for low in ((-1, 1), None, (2, 4)):
            self.check(InvalidPace, low, is_quiet, STAR, low, (-1, 1))
        for high in (NONE, (-1, 1), None, (2, 4), ONE):
            self.check(InvalidPace, high, is_quiet, STAR, ONE, high)
            self.check(InvalidPace, high, quiet_ones, STAR, ((0, ONE, ONE),), ONE, high)

    def test_in_the_order_of_the_signature(self):
        line = ((ONE,), (NONE, NONE))
        for function in (with_swallower, still_paces_at, tuned_inertia, quiet_from, is_quiet, quiet_ones):
            many = function.__code__.co_argcount
            self.check(InvalidMachine, line, function, line, *[None] * (many - 1))
        self.check(InvalidDisc, 4, with_swallower, STAR, 4, NONE, NONE)
        self.check(InvalidDisc, True, still_paces_at, STAR, True)
        self.check(InvalidDisc, -1, tuned_inertia, STAR, -1, None, None)
        self.check(InvalidDisc, None, quiet_from, STAR, None, None, None, None)
        self.check(InvalidAmount, NONE, with_swallower, STAR, 0, NONE, None)
        self.check(InvalidAmount, None, with_swallower, STAR, 0, ONE, None)


if __name__ == "__main__":
    unittest.main()
