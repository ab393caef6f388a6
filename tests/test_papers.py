"""Papers with shapes: products and quotients, shapes apart, proofs of how many swings are slower."""

import random
import unittest
from fractions import Fraction

import oracle
from chance import random_line, random_number, told
from odd import Odd
from shaftshakes.errors import InvalidLine, InvalidNumber, InvalidPace, InvalidShape
from shaftshakes.lines import compare_pace, slower_count
from shaftshakes.papers import is_at_least, is_at_most, quotient_of, shapes_of, twist_product

ONE, NONE = (1, 1), (0, 1)
PAIR = ((ONE, ONE), (ONE, ONE, ONE))
THREE = ((ONE, ONE, ONE), (NONE, ONE, ONE, NONE))
FREE = ((ONE,), (NONE, NONE))


def product(line, pace, first, second):
    rows = oracle.table(line, Fraction(*pace))
    return sum(first[j] * rows[j][k] * second[k] for j in range(len(rows)) for k in range(len(rows)))


def rank(shapes):
    rows = [[Fraction(number) for number in shape] for shape in shapes]
    found = 0
    for column in range(len(rows[0]) if rows else 0):
        pivot = next((row for row in rows if row[column] != 0), None)
        if pivot is not None:
            rows.remove(pivot)
            found += 1
            rows = [[one - row[column] / pivot[column] * two for one, two in zip(row, pivot)] for row in rows]
    return found


def random_shape(chance, line):
    return tuple(chance.choice([0, 1, -1, chance.randint(-9, 9), 10 ** 40]) for _ in line[0])


def random_pace(chance, line):
    """A pace of chance, often one of the line's own ones."""
    own = [k for k in range(12) if oracle.squares(oracle.table(line, k))[1]]
    return told(chance.choice(own)) if own and chance.random() < 0.5 else random_number(chance, 9)


class Products(unittest.TestCase):
    def test_ordinary(self):
        found = [twist_product(PAIR, (2, 1), first, second) for first, second in
                 (((1, 0), (0, 1)), ((1, 1), (1, 1)), ((1, 1), (1, -1)), ((1, -1), (1, -1)))]
        self.assertEqual([(-1, 1), (-2, 1), NONE, (2, 1)], found)

    def test_walls_and_free_ends(self):
        line = (((2, 1), (3, 1)), ((5, 1), (7, 1), (1, 2)))
        self.assertEqual((5 + 7, 1), twist_product(line, NONE, (1, 0), (1, 0)))
        self.assertEqual((15, 2), twist_product(line, NONE, (0, 1), (0, 1)))
        self.assertEqual((-7, 1), twist_product(line, NONE, (0, 1), (1, 0)))
        self.assertEqual((11, 2), twist_product(line, NONE, (1, 1), (1, 1)))
        self.assertEqual(((11 - 5) // 2, 1), twist_product(line, (1, 2), (1, 1), (1, 1)))
        self.assertEqual(NONE, twist_product(FREE, NONE, (3,), (4,)))
        self.assertEqual((-8, 1), twist_product(FREE, (2, 3), (3,), (4,)))

    def test_shapes_that_are_all_nought(self):
        self.assertEqual(NONE, twist_product(PAIR, (2, 1), (0, 0), (1, 5)))
        self.assertEqual(NONE, twist_product(PAIR, (2, 1), (3, 1), (0, 0)))
        with self.assertRaises(InvalidShape) as caught:
            quotient_of(PAIR, (0, 0))
        self.assertEqual((0, 0), caught.exception.given)

    def test_as_the_table_tells(self):
        chance = random.Random(501)
        for _ in range(60):
            line, pace = random_line(chance), random_number(chance, 9)
            first, second = random_shape(chance, line), random_shape(chance, line)
            self.assertEqual(told(product(line, pace, first, second)), twist_product(line, pace, first, second))
            self.assertEqual(twist_product(line, pace, second, first), twist_product(line, pace, first, second))


class Quotients(unittest.TestCase):
    def test_ordinary(self):
        self.assertEqual([ONE, (2, 1), (3, 1)], [quotient_of(PAIR, shape) for shape in ((1, 1), (1, 0), (1, -1))])
        self.assertEqual([NONE, (3, 1)], [quotient_of(THREE, shape) for shape in ((4, 4, 4), (1, -2, 1))])
        self.assertEqual((3, 5), quotient_of((((5, 2), (1, 1)), ((1, 2), ONE, NONE)), (10 ** 300, 0)))

    def test_between_the_slowest_and_the_fastest_pace(self):
        chance = random.Random(502)
        for _ in range(60):
            line = random_line(chance)
            shape = random_shape(chance, line)
            if any(shape):
                found = quotient_of(line, shape)
                self.assertEqual(NONE, twist_product(line, found, shape, shape))
                self.assertLessEqual(compare_pace(line, 0, found), 0)
                self.assertGreaterEqual(compare_pace(line, len(line[0]) - 1, found), 0)


class ShapesApart(unittest.TestCase):
    def check(self, line, pace):
        shapes = shapes_of(line, pace)
        size = len(line[0])
        self.assertEqual(size, len(shapes))
        self.assertEqual(size, rank(shapes))
        for place, shape in enumerate(shapes):
            self.assertTrue(type(shape) is tuple and all(type(angle) is int for angle in shape))
            for other in shapes[:place]:
                self.assertEqual(0, product(line, pace, shape, other))
        signs = [product(line, pace, shape, shape) for shape in shapes]
        below, equal = oracle.squares(oracle.table(line, Fraction(*pace)))
        self.assertEqual((below, equal), (sum(each < 0 for each in signs), sum(each == 0 for each in signs)))
        return shapes, signs

    def test_ordinary(self):
        for pace in (NONE, ONE, (3, 2), (2, 1), (3, 1), (7, 1)):
            for line in (PAIR, THREE, FREE):
                self.check(line, pace)

    def test_where_no_unit_shape_has_a_product_with_itself(self):
        # All of the table's diagonal is 0.
        self.check(PAIR, (2, 1))
        self.check((((1, 1), (2, 1), (1, 1)), (ONE, ONE, ONE, ONE)), (2, 1))
        self.check((((1, 1),) * 3, (ONE,) * 4), (2, 1))
        self.check((((1, 1),) * 8, (ONE,) * 9), (2, 1))
        self.check(FREE, NONE)

    def test_by_chance(self):
        chance = random.Random(503)
        for _ in range(60):
            line = random_line(chance)
            pace = random_pace(chance, line)
            shapes, signs = self.check(line, pace)
            count = slower_count(line, pace)
            below = tuple(shape for shape, each in zip(shapes, signs) if each < 0)
            others = tuple(shape for shape, each in zip(shapes, signs) if each >= 0)
            self.assertIs(True, is_at_least(line, pace, count, below))
            self.assertIs(True, is_at_most(line, pace, count, others))
            self.assertIs(True, is_at_least(line, pace, count and count - 1, below[1:]))
            if count < len(line[0]):
                self.assertIs(True, is_at_most(line, pace, count + 1, others[1:]))
                self.assertIs(False, is_at_least(line, pace, count + 1, shapes[:count + 1]))
            if count:
                self.assertIs(False, is_at_most(line, pace, count - 1, others + below[:1]))


class AtLeast(unittest.TestCase):
    def test_ordinary(self):
        self.assertIs(True, is_at_least(PAIR, (2, 1), 1, ((1, 1),)))
        self.assertIs(False, is_at_least(PAIR, (2, 1), 1, ((1, 0),)))
        self.assertIs(False, is_at_least(PAIR, (3, 1), 2, ((1, 1), (1, -1))))
        self.assertIs(True, is_at_least(PAIR, (31, 10), 2, ((1, 1), (1, -1))))

    def test_no_shape_is_asked_for(self):
        self.assertIs(True, is_at_least(PAIR, (2, 1), 0, ()))
        self.assertIs(False, is_at_least(PAIR, (2, 1), 0, ((1, 1),)))
        self.assertIs(False, is_at_least(PAIR, (2, 1), 1, ()))
        self.assertIs(False, is_at_least(PAIR, (2, 1), 0, None))
        self.assertIs(False, is_at_least(PAIR, (2, 1), 0, []))

    def test_products_that_are_not_nought(self):
        self.assertIs(False, is_at_least(PAIR, (9, 1), 2, ((1, 0), (1, 1))))
        self.assertIs(False, is_at_least(PAIR, (9, 1), 2, ((1, 1), (1, 1))))
        self.assertIs(True, is_at_least(PAIR, (9, 1), 2, ((-1, -1), (5, -5))))

    def test_a_product_of_nought_is_not_below(self):
        self.assertIs(False, is_at_least(PAIR, ONE, 1, ((1, 1),)))
        self.assertIs(False, is_at_least(PAIR, (2, 1), 1, ((0, 0),)))
        self.assertIs(False, is_at_least(FREE, NONE, 1, ((1,),)))

    def test_whatever_it_is(self):
        for value in (None, 0, (1, 1), "ab", [(1, 1)], ([1, 1],), ((1, 1, 1),), ((1,),), ((True, 1),), ((1, "1"),),
                      ((1, 1), (1, -1)), (Odd(),), Odd(), ((Odd(), 1),), {(1, 1): 2}, ((1, None),), b"ab", ((),)):
            self.assertIs(False, is_at_least(PAIR, (2, 1), 1, value))
            self.assertIs(False, is_at_most(PAIR, (2, 1), 1, value))


class AtMost(unittest.TestCase):
    def test_ordinary(self):
        self.assertIs(True, is_at_most(PAIR, (2, 1), 1, ((1, -1),)))
        self.assertIs(True, is_at_most(PAIR, (3, 1), 1, ((1, -1),)))
        self.assertIs(False, is_at_most(PAIR, (2, 1), 1, ((1, 1),)))
        self.assertIs(True, is_at_most(PAIR, ONE, 0, ((1, -1), (1, 1))))
        self.assertIs(False, is_at_most(PAIR, (101, 100), 0, ((1, -1), (1, 1))))

    def test_no_shape_is_asked_for(self):
        self.assertIs(True, is_at_most(PAIR, (9, 1), 2, ()))
        self.assertIs(False, is_at_most(PAIR, (9, 1), 2, ((1, -1),)))
        self.assertIs(False, is_at_most(PAIR, (2, 1), 1, ()))

    def test_shapes_that_depend_on_one_another(self):
        # At a pace of a swing its own shape has the product 0 with all, with itself, too.
        self.assertIs(False, is_at_most(PAIR, ONE, 0, ((1, 1), (2, 2))))
        self.assertIs(False, is_at_most(PAIR, ONE, 0, ((1, 1), (0, 0))))
        self.assertIs(False, is_at_most(PAIR, (2, 1), 1, ((0, 0),)))
        self.assertIs(False, is_at_most(THREE, NONE, 1, ((1, 1, 1), (-3, -3, -3))))
        self.assertIs(True, is_at_most(THREE, NONE, 1, ((1, 1, 1), (-3, -3, -2))))
        self.assertIs(False, is_at_most(THREE, ONE, 1, ((1, 0, -1), (0, 0, 0))))
        self.assertIs(True, is_at_most(THREE, ONE, 1, ((1, 0, -1), (1, -2, 1))))

    def test_all_counts(self):
        for count in range(3):
            self.assertIs(count >= 1, is_at_most(PAIR, (2, 1), count, ((1, -1), (1, 1))[:2 - count]))

    def test_no_paper_proves_what_is_not_so(self):
        chance = random.Random(504)
        for _ in range(150):
            line = random_line(chance, chance.randint(1, 3))
            pace = random_number(chance, 5)
            count = chance.randint(0, len(line[0]))
            shapes = shapes_of(line, random_number(chance, 5))
            least = is_at_least(line, pace, count, shapes[:count])
            most = is_at_most(line, pace, count, shapes[count:])
            slower = slower_count(line, pace)
            self.assertTrue(not least or slower >= count)
            self.assertTrue(not most or slower <= count)


class WrongOnes(unittest.TestCase):
    def test_counts(self):
        for count in (-1, 3, True, None, (1, 1), "1"):
            for function in (is_at_least, is_at_most):
                with self.assertRaises(InvalidNumber) as caught:
                    function(PAIR, ONE, count, None)
                self.assertIs(count, caught.exception.given)

    def test_shapes(self):
        for shape in ((1,), (1, 2, 3), [1, 2], (1, True), (1, "2"), None, 12, (1, (1, 1)), ()):
            for call in (lambda: twist_product(PAIR, ONE, shape, None), lambda: quotient_of(PAIR, shape),
                         lambda: twist_product(PAIR, ONE, (1, 1), shape)):
                with self.assertRaises(InvalidShape) as caught:
                    call()
                self.assertIs(shape, caught.exception.given)

    def test_in_the_order_of_the_signature(self):
        self.assertRaises(InvalidLine, is_at_least, None, None, None, None)
        self.assertRaises(InvalidPace, is_at_least, PAIR, (-1, 1), None, None)
        self.assertRaises(InvalidPace, twist_product, PAIR, None, None, None)
        self.assertRaises(InvalidPace, shapes_of, PAIR, ((-2, 0, 1), 1))
        self.assertRaises(InvalidLine, quotient_of, PAIR[0], (1, 1))


if __name__ == "__main__":
    unittest.main()
