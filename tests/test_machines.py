"""Machines: branched and geared ones, their paces, what they do at their roots and what they hide."""

import random
import unittest
from fractions import Fraction
from math import gcd

import oracle
from chance import multiplied, random_line, random_machine, random_number, told
from shaftshakes.answers import answer_of
from shaftshakes.errors import InvalidDisc, InvalidLine, InvalidMachine, InvalidPace
from shaftshakes.lines import is_line, paces_of, run_of
from shaftshakes.machines import are_alike, hidden_end, hidden_paces, is_machine, line_alike, machine_end, machine_of
from shaftshakes.machines import machine_paces, reroot_order, rerooted, root_answer, slower_in, ungeared
from shaftshakes.points import compare_points, is_point, sign_at
from shaftshakes.polynomials import common_divisor

ONE, NONE, FOUR = (1, 1), (0, 1), (4, 1)
TWIG = (ONE, NONE, 0, ONE, ONE)
STAR = ((ONE, NONE), TWIG, TWIG, TWIG)
GEARED = ((ONE, NONE), (ONE, NONE, 0, ONE, (2, 1)))
LONE = ((ONE, FOUR),)
THREE = ((ONE, ONE, ONE), (NONE, ONE, ONE, NONE))


def random_pace(chance, machine):
    """A pace of chance, often one of the machine's own ones."""
    own = [k for k in range(8) if oracle.squares(oracle.machine_table(machine, k))[1]]
    return told(chance.choice(own)) if own and chance.random() < 0.5 else random_number(chance, 9)


def changed(machine, place, part, value):
    rows = [list(disc) for disc in machine]
    rows[place][part] = value
    return tuple(tuple(row) for row in rows)


class Kinds(unittest.TestCase):
    def test_machines(self):
        for machine in (STAR, GEARED, LONE, ((ONE, NONE),), STAR + (TWIG,) * 4, changed(STAR, 3, 2, 2),
                        changed(GEARED, 1, 4, (-3, 2)), changed(GEARED, 1, 1, ONE), changed(GEARED, 0, 1, (1, 9))):
            self.assertIs(True, is_machine(machine))

    def test_no_machines(self):
        for value in ((), None, 0, "ab", list(STAR), STAR + (TWIG,) * 5, ((ONE,),), ((ONE, NONE, 0),), (ONE, NONE),
                      (TWIG,), (TWIG,) * 2, ((ONE, NONE), (ONE, NONE)), ((NONE, NONE),), (((-1, 1), NONE),),
                      ((ONE, (-1, 1)),), (((2, 2), NONE),), ((ONE, (0, 2)),), ([ONE, NONE],),
                      ((ONE, NONE), list(TWIG)), ((ONE, NONE), TWIG[:4]), ((ONE, NONE), TWIG + (ONE,)),
                      changed(STAR, 1, 0, NONE), changed(STAR, 2, 1, (-1, 3)), changed(STAR, 1, 2, 1),
                      changed(STAR, 1, 2, 2), changed(STAR, 1, 2, -1), changed(STAR, 1, 2, False),
                      changed(STAR, 1, 2, None), changed(STAR, 1, 2, (0, 1)), changed(STAR, 1, 3, NONE),
                      changed(STAR, 1, 3, (-1, 1)), changed(STAR, 1, 4, NONE), changed(STAR, 1, 4, (2, -1)),
                      changed(STAR, 1, 4, 1), changed(STAR, 1, 3, None), changed(STAR, 0, 0, ((-2, 0, 1), 1)),
                      changed(STAR, 0, 0, (True, 1))):
            self.assertIs(False, is_machine(value))

    def test_by_chance(self):
        chance = random.Random(701)
        for _ in range(50):
            self.assertIs(True, is_machine(random_machine(chance)))


class OfLines(unittest.TestCase):
    def test_ordinary(self):
        line = (((1, 1), (2, 1), (3, 1)), ((4, 1), (5, 1), (6, 1), (7, 1)))
        self.assertEqual((((1, 1), (4, 1)), ((2, 1), NONE, 0, (5, 1), ONE), ((3, 1), (7, 1), 1, (6, 1), ONE)),
                         machine_of(line))
        self.assertEqual(((ONE, (7, 6)),), machine_of(((ONE,), ((1, 2), (2, 3)))))
        self.assertEqual(((ONE, NONE),), machine_of(((ONE,), (NONE, NONE))))

    def test_it_is_the_line(self):
        chance = random.Random(702)
        for _ in range(40):
            line = random_line(chance)
            machine = machine_of(line)
            self.assertIs(True, is_machine(machine))
            self.assertEqual(run_of(line)[-1], machine_end(machine))
            self.assertEqual(tuple((point, 1) for point in paces_of(line)), machine_paces(machine))
            self.assertEqual(answer_of(line, 0, 0), root_answer(machine))
            self.assertEqual(((1,), ()), (hidden_end(machine), hidden_paces(machine)))
            for disc in range(len(line[0])):
                self.assertEqual(answer_of(line, disc, disc), root_answer(rerooted(machine, disc)))


class Ends(unittest.TestCase):
    def test_ordinary(self):
        self.assertEqual([(0, -4, 9, -6, 1), (0, -5, 1), (4, -1)], [machine_end(each) for each in (STAR, GEARED, LONE)])
        self.assertEqual((0, -1), machine_end((((7, 3), NONE),)))

    def test_as_the_table_tells(self):
        chance = random.Random(703)
        for _ in range(60):
            machine = random_machine(chance)
            end = machine_end(machine)
            self.assertEqual((1, len(machine) + 1), (gcd(*end), len(end)))
            factors = set()
            for pace in (Fraction(-1), Fraction(-5, 3), Fraction(*random_number(chance, 9)) + 100):
                factors.add(oracle.determinant(oracle.machine_table(machine, pace)) / oracle.value(end, pace))
            self.assertEqual(1, len(factors))
            self.assertGreater(factors.pop(), 0)

    def test_geared_out(self):
        self.assertEqual(((ONE, NONE), (FOUR, NONE, 0, FOUR, ONE)), ungeared(GEARED))
        self.assertEqual(STAR, ungeared(STAR))
        # The ratios multiply along the way: 2, then 2 times - 3 / 2.
        chain = GEARED + (((1, 9), (2, 1), 1, (1, 3), (-3, 2)),)
        self.assertEqual(((ONE, NONE), (FOUR, NONE, 0, FOUR, ONE), (ONE, (18, 1), 1, (3, 1), ONE)), ungeared(chain))

    def test_geared_out_it_does_the_same(self):
        chance = random.Random(704)
        for _ in range(50):
            machine = random_machine(chance)
            other = ungeared(machine)
            self.assertIs(True, is_machine(other))
            self.assertTrue(all(disc[4] == ONE for disc in other[1:]))
            self.assertEqual(machine_end(machine), machine_end(other))
            self.assertEqual(root_answer(machine), root_answer(other))
            turned = machine
            for place in range(1, len(machine)):
                if chance.random() < 0.5:
                    top, bottom = machine[place][4]
                    turned = changed(turned, place, 4, (-top, bottom))
            self.assertEqual(other, ungeared(turned))
            self.assertEqual(root_answer(machine), root_answer(turned))


class Paces(unittest.TestCase):
    def test_ordinary(self):
        self.assertEqual(((NONE, 1), (ONE, 2), (FOUR, 1)), machine_paces(STAR))
        self.assertEqual((((4, 1), 1),), machine_paces(LONE))
        self.assertEqual([0, 1, 1, 3, 3, 4], [slower_in(STAR, pace) for pace in (NONE, (1, 2), ONE, (2, 1), FOUR, (5, 1))])

    def test_roots_that_come_several_times(self):
        eight = STAR + (TWIG,) * 4
        self.assertEqual(((NONE, 1), (ONE, 6), ((8, 1), 1)), machine_paces(eight))
        self.assertEqual([1, 7, 7, 8], [slower_in(eight, pace) for pace in (ONE, (2, 1), (8, 1), (9, 1))])
        # Twigs of two discs each: their paces with the root held are no fractions, and come twice more.
        bush = ((ONE, NONE),) + tuple((ONE, NONE, parent, ONE, ONE) for parent in (0, 0, 0, 1, 2, 3))
        found = machine_paces(bush)
        self.assertEqual([1, 2, 1, 2, 1], [times for _, times in found])
        for point, times in found:
            self.assertIs(True, is_point(point))
            self.assertEqual(0 if times == 2 else 1, abs(sign_at((1, -3, 1), point)))

    def test_as_the_table_tells(self):
        chance = random.Random(705)
        several = 0
        for _ in range(60):
            machine = random_machine(chance)
            found = machine_paces(machine)
            several += any(times > 1 for _, times in found)
            self.assertEqual(len(machine), sum(times for _, times in found))
            for first, second in zip(found, found[1:]):
                self.assertEqual(-1, compare_points(first[0], second[0]))
            self.assertGreaterEqual(compare_points(found[0][0], NONE), 0)
            for point, times in found:
                self.assertEqual(0, sign_at(machine_end(machine), point))
                if is_point(point) and type(point[0]) is int:
                    self.assertEqual(times, oracle.squares(oracle.machine_table(machine, Fraction(*point)))[1])
            for _ in range(3):
                pace = random_pace(chance, machine)
                expected = oracle.squares(oracle.machine_table(machine, Fraction(*pace)))[0]
                self.assertEqual(expected, slower_in(machine, pace))
                self.assertEqual(expected, sum(times for point, times in found if compare_points(point, pace) < 0))
        self.assertGreater(several, 5)


class Roots(unittest.TestCase):
    def test_ordinary(self):
        self.assertEqual(((1, -1), (0, -4, 1)), root_answer(STAR))
        self.assertEqual(((-1,), (-4, 1)), root_answer(LONE))
        # 1 / (- L + 1 / (1 / 4 - 1 / (4 L)))
        self.assertEqual(((1, -1), (0, -5, 1)), root_answer(GEARED))

    def test_as_the_table_tells(self):
        chance = random.Random(706)
        for _ in range(60):
            machine = random_machine(chance)
            num, den = root_answer(machine)
            self.assertEqual((1, (1,)), (gcd(*num, *den), common_divisor(num, den)))
            self.assertGreater(den[-1], 0)
            for _ in range(3):
                pace = Fraction(*random_number(chance, 9))
                found = oracle.answer(oracle.machine_table(machine, pace), 0, 0)
                if found is not None:
                    self.assertEqual(found, oracle.value(num, pace) / oracle.value(den, pace))

    def test_hidden(self):
        self.assertEqual((1, -2, 1), hidden_end(STAR))
        self.assertEqual(((ONE, 2),), hidden_paces(STAR))
        self.assertEqual([(1,), (1,)], [hidden_end(GEARED), hidden_end(LONE)])
        self.assertEqual([(), ()], [hidden_paces(GEARED), hidden_paces(LONE)])
        # A branched machine that hides nothing.
        other = ((ONE, NONE), TWIG, changed(STAR, 1, 0, (2, 1))[1])
        self.assertEqual(((1,), ()), (hidden_end(other), hidden_paces(other)))
        # Told from a twig on, the other two twigs still swing against one another.
        self.assertEqual(((-1, 1), ((ONE, 1),)), (hidden_end(rerooted(STAR, 1)), hidden_paces(rerooted(STAR, 1))))

    def test_the_root_can_rest_in_hidden_swings_alone(self):
        chance = random.Random(707)
        hiding = 0
        for _ in range(80):
            machine = random_machine(chance)
            end, hidden, (num, den) = machine_end(machine), hidden_end(machine), root_answer(machine)
            self.assertGreater(hidden[-1], 0)
            self.assertEqual(1, gcd(*hidden))
            both = multiplied(hidden, den)
            self.assertEqual([number * end[-1] for number in both], [number * both[-1] for number in end])
            self.assertEqual(len(hidden) - 1, sum(times for _, times in hidden_paces(machine)))
            hiding += len(hidden) > 1
            often = machine_paces(machine)
            for point, times in hidden_paces(machine):
                full = [many for other, many in often if compare_points(point, other) == 0][0]
                # The root shows a pace once at the most.
                self.assertIn(full - times, (0, 1))
                self.assertEqual(full - times == 1, sign_at(den, point) == 0)
        self.assertGreater(hiding, 15)


class Alike(unittest.TestCase):
    def test_ordinary(self):
        self.assertEqual(((ONE, (3, 1)), (NONE, (3, 1), NONE)), line_alike(STAR))
        self.assertEqual(((ONE,), (NONE, FOUR)), line_alike(LONE))
        self.assertEqual(((ONE, FOUR), (NONE, FOUR, NONE)), line_alike(GEARED))
        self.assertIs(True, are_alike(STAR, machine_of(line_alike(STAR))))
        self.assertIs(False, are_alike(STAR, GEARED))
        self.assertIs(False, are_alike(STAR, changed(STAR, 3, 0, (10 ** 50 + 1, 10 ** 50))))

    def test_order_and_signs_of_branches_do_not_count(self):
        branch = ((ONE, NONE), (ONE, ONE, 0, FOUR, (2, 1)), ((1, 2), NONE, 0, ONE, (-1, 3)), ((2, 1), NONE, 1, ONE, ONE))
        other = ((ONE, NONE), ((1, 2), NONE, 0, ONE, (1, 3)), (ONE, ONE, 0, FOUR, (-2, 1)), ((2, 1), NONE, 2, ONE, (-1, 1)))
        self.assertIs(True, are_alike(branch, other))
        self.assertIs(False, are_alike(branch, changed(other, 2, 4, (3, 1))))

    def test_line_alike(self):
        chance = random.Random(708)
        for _ in range(60):
            machine = random_machine(chance)
            line = line_alike(machine)
            num, den = root_answer(machine)
            self.assertIs(True, is_line(line))
            self.assertEqual((NONE, len(den) - 1), (line[1][0], len(line[0])))
            self.assertEqual((num, den), answer_of(line, 0, 0))
            self.assertIs(True, are_alike(machine, machine_of(line)))
            self.assertIs(True, are_alike(machine, ungeared(machine)))
            other = random_machine(chance)
            self.assertEqual(line == line_alike(other), are_alike(machine, other))


class Rerooted(unittest.TestCase):
    def test_ordinary(self):
        self.assertEqual(((ONE, NONE), (ONE, NONE, 0, FOUR, (1, 2))), rerooted(GEARED, 1))
        self.assertEqual(((ONE, NONE), TWIG, (ONE, NONE, 1, ONE, ONE), (ONE, NONE, 1, ONE, ONE)), rerooted(STAR, 1))
        self.assertEqual((2, 0, 1, 3), reroot_order(STAR, 2))
        self.assertEqual((STAR, (0, 1, 2, 3)), (rerooted(STAR, 0), reroot_order(STAR, 0)))
        self.assertEqual((LONE, (0,)), (rerooted(LONE, 0), reroot_order(LONE, 0)))

    def test_a_long_way(self):
        machine = ((ONE, NONE), ((2, 1), ONE, 0, (3, 1), (-2, 3)), ((4, 1), NONE, 0, (5, 1), ONE),
                   ((6, 1), NONE, 1, (7, 1), (3, 1)), ((8, 1), (9, 1), 3, (1, 2), ONE), ((1, 3), NONE, 1, (1, 4), (1, 5)))
        self.assertEqual((3, 1, 0, 2, 4, 5), reroot_order(machine, 3))
        self.assertEqual((((6, 1), NONE), ((2, 1), ONE, 0, (63, 1), (1, 3)), (ONE, NONE, 1, (4, 3), (-3, 2)),
                          ((4, 1), NONE, 2, (5, 1), ONE), ((8, 1), (9, 1), 0, (1, 2), ONE),
                          ((1, 3), NONE, 1, (1, 4), (1, 5))), rerooted(machine, 3))

    def test_it_is_the_same_machine(self):
        chance = random.Random(709)
        for _ in range(60):
            machine = random_machine(chance)
            disc = chance.randrange(len(machine))
            other, order = rerooted(machine, disc), reroot_order(machine, disc)
            self.assertIs(True, is_machine(other))
            self.assertEqual((disc, list(range(len(machine)))), (order[0], sorted(order)))
            pace = Fraction(*random_number(chance, 9))
            rows, turned = oracle.machine_table(machine, pace), oracle.machine_table(other, pace)
            self.assertEqual([[rows[j][k] for k in order] for j in order], turned)
            self.assertEqual(machine_end(machine), machine_end(other))
            back = rerooted(other, order.index(0))
            names = [order[k] for k in reroot_order(other, order.index(0))]
            rows = oracle.machine_table(machine, pace)
            self.assertEqual([[rows[j][k] for k in names] for j in names], oracle.machine_table(back, pace))

    def test_a_disc_rests_where_its_answer_is_nought(self):
        self.assertEqual(0, sign_at(root_answer(STAR)[0], ONE))
        self.assertNotEqual(0, sign_at(root_answer(rerooted(STAR, 1))[0], ONE))


class WrongOnes(unittest.TestCase):
    def test_each(self):
        for disc in (4, -1, None, True, "0", (0, 1), 10 ** 30):
            for function in (rerooted, reroot_order):
                with self.assertRaises(InvalidDisc) as caught:
                    function(STAR, disc)
                self.assertIs(disc, caught.exception.given)
        for pace in ((-1, 1), (2, 4), None, ((-2, 0, 1), 1)):
            with self.assertRaises(InvalidPace) as caught:
                slower_in(STAR, pace)
            self.assertIs(pace, caught.exception.given)

    def test_in_the_order_of_the_signature(self):
        self.assertRaises(InvalidMachine, rerooted, THREE, 9)
        self.assertRaises(InvalidMachine, slower_in, (), (-1, 1))
        self.assertRaises(InvalidLine, machine_of, STAR)
        with self.assertRaises(InvalidMachine) as caught:
            are_alike((), [])
        self.assertEqual((), caught.exception.given)
        with self.assertRaises(InvalidMachine) as caught:
            are_alike(STAR, [])
        self.assertEqual([], caught.exception.given)


if __name__ == "__main__":
    unittest.main()
