"""Certificates: the claim that is so, with a paper that the checker accepts."""

import random
import unittest
from fractions import Fraction

import oracle
from chance import random_box, random_engine, random_fraction, random_line, random_machine, random_number
from chance import random_polynomial, random_slot, told
from shaftshakes.answers import answer_at, sign_lot
from shaftshakes.boxes import is_clear
from shaftshakes.certificates import certify_alike, certify_box, certify_least, certify_left, certify_line, certify_louder
from shaftshakes.certificates import certify_most, certify_paces, certify_quiet, certify_rest, certify_roots, certify_signs
from shaftshakes.certificates import certify_stir
from shaftshakes.checker import accepts
from shaftshakes.errors import InvalidBox, InvalidDisc, InvalidEngine, InvalidFraction, InvalidIndex, InvalidLine
from shaftshakes.errors import InvalidMachine, InvalidOrder, InvalidPace, InvalidPolynomial, InvalidReadings, InvalidSign
from shaftshakes.errors import InvalidSlot, Nought
from shaftshakes.lines import mirrored_line, slower_count
from shaftshakes.machines import are_alike, line_alike, machine_of, root_answer
from shaftshakes.orders import stirs
from shaftshakes.readings import amounts_left, parting_pace
from shaftshakes.shapes import resting_discs
from shaftshakes.swallowers import is_quiet

ONE, NONE, FOUR = (1, 1), (0, 1), (4, 1)
PAIR = ((ONE, ONE), (ONE, ONE, ONE))
TWO = ((ONE, ONE), (NONE, ONE, NONE))
THREE = ((ONE, ONE, ONE), (NONE, ONE, ONE, NONE))
BOX = (((ONE, (2, 1), ONE), THREE[1]), THREE)
TWIG = (ONE, NONE, 0, ONE, ONE)
STAR = ((ONE, NONE), TWIG, TWIG, TWIG)
GEARED = ((ONE, NONE), (ONE, NONE, 0, ONE, (2, 1)))
LONE = ((ONE, FOUR),)
BOXER = (TWO, ((0, 0, ONE), (1, 6, ONE)))
PAIRS = [{"rests", "moves"}, {"clear", "clashes"}, {"louder", "not louder"}, {"left", "not left"},
         {"same paces", "other paces"}, {"line of", "no line"}, {"alike", "unlike"}, {"quiet", "noisy"}, {"stirs", "silent"}]


def random_pace(chance, line):
    """A pace of chance, often one of the line's own ones."""
    own = [k for k in range(9) if oracle.squares(oracle.table(line, k))[1]]
    return told(chance.choice(own)) if own and chance.random() < 0.4 else random_number(chance, 9)


def random_span(chance):
    low = Fraction(*random_number(chance, 5)) * chance.choice([0, 1])
    return told(low), told(low + Fraction(*random_number(chance, 4)))


class Check(unittest.TestCase):
    def certified(self, pair, kind, *parts):
        """The claim is this one, its paper is accepted, and no paper of its for the opposite one."""
        self.assertEqual((tuple, 2), (type(pair), len(pair)))
        claim, paper = pair
        self.assertEqual((kind,) + parts, claim)
        self.assertIs(True, accepts(claim, paper))
        for kinds in PAIRS:
            if kind in kinds:
                (other,) = kinds - {kind}
                self.assertIs(False, accepts((other,) + parts, paper))
                self.assertIs(False, accepts((other,) + parts, ()))
        return paper

    def plain(self, pair, kind, *parts):
        self.assertEqual((), self.certified(pair, kind, *parts))


class Ordinary(Check):
    def test_roots(self):
        self.plain(certify_roots((2, -4, -1, 2)), "roots", (2, -4, -1, 2), 3)
        self.plain(certify_roots(polynomial=(5,)), "roots", (5,), 0)
        self.assertRaises(Nought, certify_roots, ())
        self.assertRaises(InvalidPolynomial, certify_roots, (1, 0))

    def test_counts(self):
        self.assertEqual(2, len(self.certified(certify_least(THREE, (2, 1)), "at least", THREE, (2, 1), 2)))
        self.assertEqual(1, len(self.certified(certify_most(THREE, (2, 1)), "at most", THREE, (2, 1), 2)))
        self.assertEqual((), self.certified(certify_least(THREE, NONE), "at least", THREE, NONE, 0))
        self.assertEqual(3, len(self.certified(certify_most(THREE, NONE), "at most", THREE, NONE, 0)))
        self.assertEqual((), self.certified(certify_most(THREE, (9, 1)), "at most", THREE, (9, 1), 3))

    def test_rest(self):
        self.plain(certify_rest(THREE, 1, 1), "rests", THREE, 1, 1)
        self.plain(certify_rest(THREE, 1, 0), "moves", THREE, 1, 0)

    def test_box(self):
        self.plain(certify_box(BOX, (1, 2), (3, 4)), "clear", BOX, (1, 2), (3, 4))
        self.certified(certify_box(BOX, (5, 2), (11, 4)), "clashes", BOX, (5, 2), (11, 4))

    def test_louder_and_signs(self):
        self.plain(certify_louder(PAIR, 0, 1, (1, 2), (1, 2)), "louder", PAIR, 0, 1, (1, 2), (1, 2))
        self.plain(certify_louder(PAIR, 0, 1, (9, 1), ONE), "louder", PAIR, 0, 1, (9, 1), ONE)
        self.plain(certify_louder(PAIR, 0, 0, NONE, (2, 1)), "not louder", PAIR, 0, 0, NONE, (2, 1))
        lot = ((NONE, True, ONE, False), ((2, 1), False, (3, 1), False))
        self.plain(certify_signs(PAIR, 0, 0, 1), "signs", PAIR, 0, 0, 1, lot)

    def test_left(self):
        readings = ((ONE, 1),)
        self.certified(certify_left(PAIR, ("disc", 0), readings), "left", PAIR, ("disc", 0), readings)
        self.certified(certify_left(PAIR, ("shaft", 0), readings), "left", PAIR, ("shaft", 0), readings)
        self.plain(certify_left(PAIR, ("shaft", 1), readings), "not left", PAIR, ("shaft", 1), readings)

    def test_paces(self):
        self.plain(certify_paces(PAIR, PAIR), "same paces", PAIR, PAIR)
        self.certified(certify_paces(PAIR, TWO), "other paces", PAIR, TWO)
        self.certified(certify_paces(TWO, THREE), "other paces", TWO, THREE)

    def test_line(self):
        num, den = (2, -2), (0, -4, 2)
        self.assertEqual(TWO, self.certified(certify_line(num, den, NONE), "line of", num, den, NONE))
        self.plain(certify_line(num, den, ONE), "no line", num, den, ONE)

    def test_alike(self):
        other = machine_of(line_alike(STAR))
        self.plain(certify_alike(STAR, other), "alike", STAR, other)
        self.certified(certify_alike(STAR, GEARED), "unlike", STAR, GEARED)
        # At 0 just one is endless.
        self.certified(certify_alike(STAR, LONE), "unlike", STAR, LONE)

    def test_unlike_ones_that_are_the_same_at_some_paces(self):
        # At 0 both answers are 1 / 4.
        other = ((ONE, FOUR), TWIG)
        self.assertEqual([1, 1], [4 * Fraction(oracle.value(num, 0)) / oracle.value(den, 0)
                                  for num, den in (root_answer(LONE), root_answer(other))])
        self.assertNotEqual(NONE, self.certified(certify_alike(LONE, other), "unlike", LONE, other))
        # At 0 both are endless, at 1 both are 0.
        self.assertNotIn(self.certified(certify_alike(STAR, GEARED), "unlike", STAR, GEARED), (NONE, ONE))

    def test_quiet_and_stir(self):
        self.plain(certify_quiet(STAR, (3, 2), (7, 2)), "quiet", STAR, (3, 2), (7, 2))
        self.plain(certify_quiet(STAR, (3, 2), FOUR), "noisy", STAR, (3, 2), FOUR)
        self.plain(certify_stir(BOXER, 1, 1), "stirs", BOXER, 1, 1)
        self.plain(certify_stir(BOXER, -4, 1), "silent", BOXER, -4, 1)


class ByChance(Check):
    def test_lines(self):
        chance = random.Random(1601)
        for _ in range(40):
            line, other = random_line(chance), random_line(chance)
            size = len(line[0])
            pace = random_pace(chance, line)
            count = slower_count(line, pace)
            self.certified(certify_least(line, pace), "at least", line, pace, count)
            self.certified(certify_most(line, pace), "at most", line, pace, count)
            for _ in range(3):
                index, disc = chance.randrange(size), chance.randrange(size)
                kind = "rests" if disc in resting_discs(line, index) else "moves"
                self.plain(certify_rest(line, index, disc), kind, line, index, disc)
            for second in (other, mirrored_line(line)):
                kind = "same paces" if parting_pace(line, second) is None else "other paces"
                self.certified(certify_paces(line, second), kind, line, second)

    def test_answers(self):
        chance = random.Random(1602)
        for _ in range(25):
            line = random_line(chance, chance.randint(1, 5))
            discs = (line, chance.randrange(len(line[0])), chance.randrange(len(line[0])))
            level, pace = told(abs(Fraction(*random_fraction(chance)))), random_pace(chance, line)
            answer = answer_at(*discs, pace)
            kind = "louder" if answer is None or abs(Fraction(*answer)) > Fraction(*level) else "not louder"
            self.plain(certify_louder(*discs, level, pace), kind, *discs, level, pace)
            if answer is not None:
                level = told(abs(Fraction(*answer)))
                self.plain(certify_louder(*discs, level, pace), "not louder", *discs, level, pace)
            sign = chance.choice([1, 0, -1])
            self.plain(certify_signs(*discs, sign), "signs", *discs, sign, sign_lot(*discs, sign))

    def test_roots_and_lines_of_answers(self):
        chance = random.Random(1603)
        for _ in range(40):
            polynomial = random_polynomial(chance)
            self.plain(certify_roots(polynomial), "roots", polynomial, oracle.root_count(polynomial))
            line = random_line(chance)
            num, den = root_answer(machine_of(line))
            self.assertEqual(line, self.certified(certify_line(num, den, line[1][0]), "line of", num, den, line[1][0]))
            claim, paper = certify_line(polynomial, den, NONE)
            self.assertIs(True, accepts(claim, paper))

    def test_boxes_and_slots(self):
        chance = random.Random(1604)
        for _ in range(40):
            box = random_box(chance)
            low, high = random_span(chance)
            kind = "clear" if is_clear(box, low, high) else "clashes"
            self.certified(certify_box(box, low, high), kind, box, low, high)
            line = box[0]
            slot = random_slot(chance, line)
            readings = []
            for _ in range(chance.randint(1, 3)):
                pace = random_pace(chance, box[1])
                pace = ONE if pace == NONE else pace
                readings.append((pace, max(0, slower_count(box[1], pace) + chance.choice([0, 0, 0, 1, -1]))))
            readings = tuple(readings)
            kind = "not left" if amounts_left(line, slot, readings) is None else "left"
            self.certified(certify_left(line, slot, readings), kind, line, slot, readings)

    def test_machines_and_engines(self):
        chance = random.Random(1605)
        for _ in range(40):
            machine, other = random_machine(chance), random_machine(chance)
            for second in (other, machine_of(line_alike(machine))):
                kind = "alike" if are_alike(machine, second) else "unlike"
                self.certified(certify_alike(machine, second), kind, machine, second)
            low, high = random_span(chance)
            kind = "quiet" if is_quiet(machine, low, high) else "noisy"
            self.plain(certify_quiet(machine, low, high), kind, machine, low, high)
            engine = random_engine(chance)
            order, index = chance.randint(-20, 20), chance.randrange(len(engine[0][0]))
            kind = "stirs" if stirs(engine, order, index) else "silent"
            self.plain(certify_stir(engine, order, index), kind, engine, order, index)


class WrongOnes(unittest.TestCase):
    def test_in_the_order_of_the_signature(self):
        for error, given, function, arguments in (
                (InvalidPolynomial, None, certify_roots, (None,)),
                (InvalidLine, None, certify_least, (None, None)), (InvalidPace, None, certify_least, (PAIR, None)),
                (InvalidLine, STAR, certify_most, (STAR, None)), (InvalidPace, (-1, 1), certify_most, (PAIR, (-1, 1))),
                (InvalidLine, None, certify_rest, (None, 9, 9)), (InvalidIndex, 3, certify_rest, (THREE, 3, 9)),
                (InvalidDisc, 3, certify_rest, (THREE, 2, 3)), (InvalidDisc, True, certify_rest, (THREE, 2, True)),
                (InvalidBox, THREE, certify_box, (THREE, None, None)), (InvalidPace, None, certify_box, (BOX, None, ())),
                (InvalidPace, ONE, certify_box, (BOX, ONE, ONE)),
                (InvalidDisc, 2, certify_louder, (PAIR, 2, 9, None, None)),
                (InvalidDisc, 9, certify_louder, (PAIR, 1, 9, None, None)),
                (InvalidFraction, (-1, 1), certify_louder, (PAIR, 1, 0, (-1, 1), None)),
                (InvalidPace, None, certify_louder, (PAIR, 1, 0, NONE, None)),
                (InvalidDisc, 9, certify_signs, (PAIR, 1, 9, None)), (InvalidSign, 2, certify_signs, (PAIR, 1, 0, 2)),
                (InvalidSlot, None, certify_left, (PAIR, None, None)),
                (InvalidLine, (), certify_paces, (PAIR, ())), (InvalidLine, None, certify_paces, (None, ())),
                (InvalidPolynomial, (), certify_line, ((), (), None)), (InvalidPolynomial, (), certify_line, ((1,), (), None)),
                (InvalidFraction, None, certify_line, ((1,), (1,), None)),
                (InvalidMachine, PAIR, certify_alike, (PAIR, None)), (InvalidMachine, None, certify_alike, (STAR, None)),
                (InvalidMachine, PAIR, certify_quiet, (PAIR, None, None)), (InvalidPace, None, certify_quiet, (STAR, None, 1)),
                (InvalidPace, ONE, certify_quiet, (STAR, ONE, ONE)),
                (InvalidEngine, TWO, certify_stir, (TWO, None, None)), (InvalidOrder, None, certify_stir, (BOXER, None, None)),
                (InvalidIndex, None, certify_stir, (BOXER, 0, None))):
            with self.subTest(function=function.__name__, error=error.__name__):
                with self.assertRaises(error) as caught:
                    function(*arguments)
                self.assertIs(given, caught.exception.given)

    def test_readings(self):
        for readings, index in ((None, None), ((), 0), (((ONE, 1), None), 1), (((ONE, 1),) * 9, 8)):
            with self.assertRaises(InvalidReadings) as caught:
                certify_left(PAIR, ("disc", 0), readings)
            self.assertEqual(index, caught.exception.index)


if __name__ == "__main__":
    unittest.main()
