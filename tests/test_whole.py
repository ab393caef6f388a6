"""The whole program: what the document tells in several ways, all parts tell alike."""

import random
import unittest
from fractions import Fraction

import oracle
from chance import random_box, random_engine, random_line, random_machine, random_number, random_slot, told
from shaftshakes.amounts import count_with, counts_by_amount, turning_amount, with_amount
from shaftshakes.answers import answer_at, answer_of, answer_sign, loud_paces, sign_lot, still_paces
from shaftshakes.backs import greatest_stay, line_of_answer, line_of_paces, rewalled
from shaftshakes.boxes import box_counts, box_range, clashing_line, is_clear, is_in_box
from shaftshakes.certificates import certify_box, certify_least, certify_most, certify_paces, certify_quiet, certify_rest
from shaftshakes.certificates import certify_stir
from shaftshakes.changes import change_signs, held_parts
from shaftshakes.checker import accepts
from shaftshakes.consoles import Console
from shaftshakes.lines import compare_pace, mirrored_line, paces_of, run_of, slower_count
from shaftshakes.lots import lot_holds
from shaftshakes.machines import are_alike, hidden_paces, line_alike, machine_end, machine_of, machine_paces, rerooted
from shaftshakes.machines import root_answer, slower_in
from shaftshakes.orders import compare_stirs, silent_orders, stirs
from shaftshakes.papers import quotient_of, shapes_of, twist_product
from shaftshakes.points import compare_points, enclosed, roots_of, sign_at
from shaftshakes.polynomials import common_divisor, count_roots
from shaftshakes.readings import agrees, amounts_left, parting_pace
from shaftshakes.shapes import compare_turns, rest_places, resting_discs, signs_of
from shaftshakes.speeds import clear_speeds, critical_speeds, is_clear_speed, speed_of
from shaftshakes.swallowers import is_quiet, quiet_from, quiet_ones, still_paces_at, tuned_inertia, with_swallower
from shaftshakes.workshops import Workshop

ONE, NONE = (1, 1), (0, 1)


def random_pace(chance, line):
    """A pace of chance above 0, often one of the line's own ones."""
    own = [k for k in range(1, 9) if oracle.squares(oracle.table(line, k))[1]]
    return told(chance.choice(own)) if own and chance.random() < 0.4 else random_number(chance, 9)


def reading(line, pace):
    return (pace, slower_count(line, pace))


class Counts(unittest.TestCase):
    def test_how_many_swings_are_slower(self):
        chance = random.Random(1701)
        for _ in range(40):
            line = random_line(chance)
            pace = random_pace(chance, line)
            count = slower_count(line, pace)
            end = run_of(line)[-1]
            below = [shape for shape in shapes_of(line, pace) if twist_product(line, pace, shape, shape)[0] < 0]
            shop = Workshop()
            shop.put("line", line)
            self.assertIsNone(shop.wish(("slower", "line", pace, count)))
            ways = [
                sum(compare_points(point, pace) < 0 for point in paces_of(line)),
                sum(compare_pace(line, index, pace) < 0 for index in range(len(line[0]))),
                count_roots(end, None, pace),
                len(below),
                certify_least(line, pace)[0][3],
                certify_most(line, pace)[0][3],
                box_counts((line, line), pace)[0],
                box_counts((line, line), pace)[1],
                slower_in(machine_of(line), pace),
                slower_count(mirrored_line(line), pace),
                count_with(line, ("disc", 0), line[0][0], pace),
                int(Console(shop).say(f"slower line: {pace[0]}/{pace[1]}")),
                oracle.slower(line, Fraction(*pace)),
            ]
            self.assertEqual({count}, set(ways))
            self.assertIs(True, agrees(line, (reading(line, pace),)))

    def test_clear_stretches(self):
        chance = random.Random(1702)
        for _ in range(60):
            line = random_line(chance)
            low = random_pace(chance, line) if chance.random() < 0.8 else NONE
            high = told(Fraction(*low) + Fraction(*random_number(chance, 5)))
            found = is_clear((line, line), low, high)
            self.assertIs(found, is_quiet(machine_of(line), low, high))
            self.assertIs(found, clashing_line((line, line), low, high) is None)
            self.assertEqual("clear" if found else "clashes", certify_box((line, line), low, high)[0][0])
            self.assertEqual("quiet" if found else "noisy", certify_quiet(machine_of(line), low, high)[0][0])
            self.assertIs(found, not any(compare_points(point, low) >= 0 >= compare_points(point, high)
                                         for point in paces_of(line)))
            shop = Workshop()
            shop.put("a", line)
            try:
                shop.wish(("clear", "a", low, high))
                self.assertIs(True, found)
            except ValueError:
                self.assertIs(False, found)


class Swings(unittest.TestCase):
    def test_discs_that_rest(self):
        chance = random.Random(1703)
        resting = 0
        for _ in range(50):
            line = random_line(chance, chance.randint(2, 6))
            machine = machine_of(line)
            index = chance.randrange(len(line[0]))
            point = paces_of(line)[index]
            self.assertEqual(index, len(rest_places(line, index)))
            shop = Workshop()
            shop.put("a", line)
            self.assertEqual(" ".join(map(str, signs_of(line, index))), Console(shop).say(f"signs a: {index}"))
            for disc in range(len(line[0])):
                rests = disc in resting_discs(line, index)
                resting += rests
                self.assertEqual(rests, signs_of(line, index)[disc] == 0)
                self.assertEqual("rests" if rests else "moves", certify_rest(line, index, disc)[0][0])
                self.assertEqual(rests, any(compare_points(point, other) == 0 for part in held_parts(line, disc)
                                            for other in paces_of(part)))
                # The disc hides just those paces in whose swings it rests.
                hidden = [other for other, _ in hidden_paces(rerooted(machine, disc))]
                self.assertEqual(rests, any(compare_points(point, other) == 0 for other in hidden))
                self.assertEqual(not rests, any(compare_points(point, other) == 0 for other in loud_paces(line, disc, disc)))
                engine = (line, ((disc, chance.randint(0, 11), random_number(chance, 9)),))
                self.assertEqual(tuple(range(12)) if rests else (), silent_orders(engine, index))
                self.assertEqual("silent" if rests else "stirs", certify_stir(engine, 7, index)[0][0])
        self.assertGreater(resting, 5)

    def test_how_far_discs_turn(self):
        chance = random.Random(1704)
        for _ in range(30):
            line = random_line(chance)
            index, one, two = [chance.randrange(len(line[0])) for _ in range(3)]
            # Cranks a quarter apart cancel nothing, opposite ones what turns alike.
            engine = (line, ((one, 0, ONE), (two, 3, ONE)))
            other = (line, ((one, 0, ONE), (two, 6, ONE)))
            signs = signs_of(line, index)
            self.assertEqual(compare_turns(line, index, one, two) != 0 or signs[one] != signs[two],
                             stirs(other, 1, index))
            self.assertEqual(signs[one] != 0 or signs[two] != 0, stirs(engine, 1, index))
            self.assertEqual(0, compare_stirs(engine, 1, 3, index))

    def test_quotients_and_paces(self):
        chance = random.Random(1705)
        for _ in range(30):
            line = random_line(chance)
            shape = tuple(chance.randint(-5, 5) for _ in line[0])
            if any(shape):
                quotient = quotient_of(line, shape)
                self.assertLessEqual(compare_pace(line, 0, quotient), 0)
                self.assertGreaterEqual(compare_pace(line, len(line[0]) - 1, quotient), 0)


class Boxes(unittest.TestCase):
    def test_boxes_changes_and_amounts(self):
        chance = random.Random(1706)
        for _ in range(30):
            box = random_box(chance)
            slow, fast = box
            self.assertIs(True, is_in_box(box, slow) and is_in_box(box, fast))
            self.assertTrue(all(sign <= 0 for sign in change_signs(slow, fast)))
            for index, sign in enumerate(change_signs(slow, fast)):
                self.assertEqual(sign, compare_points(*box_range(box, index)))
            apart = parting_pace(slow, fast)
            self.assertEqual(apart is None, set(change_signs(slow, fast)) == {0})
            self.assertEqual("same paces" if apart is None else "other paces", certify_paces(slow, fast)[0][0])
            if apart is not None:
                self.assertGreater(box_counts(box, apart)[1], box_counts(box, apart)[0])

    def test_amounts_and_readings(self):
        chance = random.Random(1707)
        for _ in range(40):
            line = random_line(chance)
            slot, pace = random_slot(chance, line), random_pace(chance, line)
            turning = turning_amount(line, slot, pace)
            self.assertEqual(1 if turning is None else 2, len(counts_by_amount(line, slot, pace)))
            for stretch, count in counts_by_amount(line, slot, pace):
                self.assertEqual(stretch, amounts_left(line, slot, ((pace, count),)))
            if turning is not None:
                other = with_amount(line, slot, turning)
                self.assertEqual(0, sign_at(run_of(other)[-1], pace))
                self.assertEqual(1, oracle.squares(oracle.table(other, Fraction(*pace)))[1])


class Answers(unittest.TestCase):
    def test_lines_told_as_machines(self):
        chance = random.Random(1708)
        for _ in range(30):
            line = random_line(chance)
            machine = machine_of(line)
            self.assertEqual(run_of(line)[-1], machine_end(machine))
            self.assertEqual([point for point, _ in machine_paces(machine)], list(paces_of(line)))
            disc = chance.randrange(len(line[0]))
            seen = rerooted(machine, disc)
            self.assertEqual(answer_of(line, disc, disc), root_answer(seen))
            self.assertEqual(still_paces(line, disc, disc), still_paces_at(machine, disc))
            self.assertEqual(roots_of(answer_of(line, disc, disc)[0]), still_paces_at(seen, 0))
            self.assertEqual(rewalled(line, NONE), line_alike(machine))
            self.assertEqual(line, line_of_answer(*root_answer(machine), line[1][0]))
            greatest = greatest_stay(*root_answer(machine))
            self.assertEqual(NONE, rewalled(line, greatest)[1][-1])
            held = held_parts(line, 0)
            free = (line[0], (NONE,) + line[1][1:])
            behind = run_of(held[0])[-1] if held else (1,)
            scaled = line_of_paces(run_of(free)[-1], behind)
            self.assertEqual(ONE, scaled[0][0])
            self.assertIsNone(parting_pace(free, scaled))

    def test_signs_and_lots(self):
        chance = random.Random(1709)
        for _ in range(20):
            line = random_line(chance, chance.randint(1, 5))
            one, two = chance.randrange(len(line[0])), chance.randrange(len(line[0]))
            pace = random_pace(chance, line)
            found = answer_at(line, one, two, pace)
            sign = answer_sign(line, one, two, pace)
            self.assertEqual(None if found is None else (found[0] > 0) - (found[0] < 0), sign)
            for each in (1, 0, -1):
                self.assertEqual(sign == each, lot_holds(sign_lot(line, one, two, each), pace))

    def test_swallowers(self):
        chance = random.Random(1710)
        for _ in range(30):
            machine = random_machine(chance, chance.randint(1, 7))
            disc, tuned, pace = chance.randrange(len(machine)), random_number(chance, 5), random_number(chance, 5)
            inertia = tuned_inertia(machine, disc, tuned, pace)
            if inertia is None:
                continue
            stiffness = told(Fraction(*tuned) * Fraction(*inertia))
            other = with_swallower(machine, disc, inertia, stiffness)
            self.assertEqual(0, sign_at(machine_end(other), pace))
            self.assertIs(False, is_quiet(other, pace, told(Fraction(*pace) + 1)))
            self.assertIn(tuned, still_paces_at(other, disc))
            low = told(min(Fraction(*pace), Fraction(*tuned) / 2))
            high = told(max(Fraction(*pace), Fraction(*tuned) * 2))
            least = quiet_from(machine, disc, tuned, low, high)
            stock = ((disc, inertia, stiffness),)
            if least is not None:
                self.assertEqual(() if Fraction(*inertia) <= Fraction(*least) else (0,), quiet_ones(machine, stock, low, high))
            else:
                self.assertEqual((), quiet_ones(machine, stock, low, high))

    def test_alike(self):
        chance = random.Random(1711)
        for _ in range(30):
            machine = random_machine(chance)
            line = line_alike(machine)
            shop = Workshop()
            shop.put("line", line)
            shop.put("other", rewalled(line, greatest_stay(*root_answer(machine))))
            self.assertIsNone(shop.wish(("alike", "line", "other")))
            self.assertIs(True, are_alike(machine_of(line), machine_of(shop.named("other"))))
            self.assertIs(True, accepts(("alike", machine, machine_of(line)), ()))
            # What the root shows are the loud paces of the line; it hides the rest.
            shown = roots_of(root_answer(machine)[1])
            self.assertEqual(shown, loud_paces(line, 0, 0))
            self.assertEqual(len(machine), len(shown) + sum(many for _, many in hidden_paces(machine)))
            self.assertEqual(len(line[0]), len(shown))
            self.assertEqual((1,), common_divisor(*root_answer(machine)))


class Engines(unittest.TestCase):
    def test_orders_and_speeds(self):
        chance = random.Random(1712)
        for _ in range(20):
            engine = random_engine(chance, random_line(chance, chance.randint(1, 5)))
            size = len(engine[0][0])
            most = chance.choice([1, 3, 12])
            lot = clear_speeds(engine, most)
            pairs = critical_speeds(engine, most)
            for index in range(size):
                silent = silent_orders(engine, index)
                moves = paces_of(engine[0])[index] != NONE
                for order in range(1, most + 1):
                    critical = (order, index) in pairs
                    self.assertEqual(critical, moves and order % 12 not in silent)
                    if critical:
                        point = speed_of(engine, order, index)
                        self.assertIs(False, lot_holds(lot, point))
                        low, high = enclosed(point, (1, 1000))
                        if low[0] >= 0:
                            self.assertIs(False, is_clear_speed(engine, most, low, high))
            self.assertEqual(not pairs, is_clear_speed(engine, most, NONE, (10 ** 12, 1)))


if __name__ == "__main__":
    unittest.main()
