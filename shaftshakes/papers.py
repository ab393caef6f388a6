"""Papers with shapes: rows of angles that prove how many swings are slower than a pace."""

from math import lcm

from shaftshakes.algebra import thinned
from shaftshakes.errors import InvalidNumber, InvalidShape
from shaftshakes.lines import check_line, check_pace
from shaftshakes.rationals import added, divided, is_index, is_whole, multiplied, subtracted

NOUGHT = (0, 1)


def is_shape(line, value):
    """Tell whether a value, whatever it is, is a shape of the line."""
    if not isinstance(value, tuple) or len(value) != len(line[0]):
        return False
    return all([is_whole(angle) for angle in value])


def check_shape(line, given):
    """Raise InvalidShape for what is no shape of the line."""
    if not is_shape(line, given):
        raise InvalidShape(given)


def check_count(line, given):
    """Raise InvalidNumber for what is no whole number from 0 up to the number of discs."""
    if not is_index(given, len(line[0]) + 1):
        raise InvalidNumber(given)


def twists_of(shape):
    """Return the list of the twists of all shafts."""
    angles = [0] + list(shape) + [0]
    return [angles[place + 1] - angles[place] for place in range(len(angles) - 1)]


def weighed(numbers, first, second):
    """Return the sum of fractions, each times the whole numbers at its place in two rows."""
    total = NOUGHT
    for number, one, other in zip(numbers, first, second):
        total = added(total, multiplied(number, (one * other, 1)))
    return total


def twist_product(line, pace, shape, other):
    """Return the product of two shapes at a pace."""
    check_line(line)
    check_pace(pace)
    check_shape(line, shape)
    check_shape(line, other)
    stiff = weighed(line[1], twists_of(shape), twists_of(other))
    return subtracted(stiff, multiplied(pace, weighed(line[0], shape, other)))


def quotient_of(line, shape):
    """Return the quotient of a shape that is not all 0."""
    check_line(line)
    check_shape(line, shape)
    if not any(shape):
        raise InvalidShape(shape)
    twists = twists_of(shape)
    return divided(weighed(line[1], twists, twists), weighed(line[0], shape, shape))


def whole_weights(line, pace):
    """Return the stiffnesses and pace times the inertias as whole numbers, all times one above 0."""
    discs = [multiplied(pace, inertia) for inertia in line[0]]
    scale = 1
    for number in list(line[1]) + discs:
        scale = lcm(scale, number[1])
    stiff = [number[0] * (scale // number[1]) for number in line[1]]
    return (stiff, [number[0] * (scale // number[1]) for number in discs])


def whole_product(weights, first, second):
    """Return the product of two shapes, a whole number, times one number above 0."""
    stiff, heavy = weights
    total = 0
    for number, one, other in zip(stiff, twists_of(first), twists_of(second)):
        total += number * one * other
    for number, one, other in zip(heavy, first, second):
        total -= number * one * other
    return total


def with_pivot_first(weights, shapes):
    """Return shapes that span the same, the first one's product with itself not 0 if any shape's is not."""
    for place, shape in enumerate(shapes):
        if whole_product(weights, shape, shape) != 0:
            return [shape] + shapes[:place] + shapes[place + 1:]
    for place, shape in enumerate(shapes):
        for other in shapes[place + 1:]:
            if whole_product(weights, shape, other) != 0:
                both = tuple([one + two for one, two in zip(shape, other)])
                return [both] + shapes[:place] + shapes[place + 1:]
    return shapes


def apart_from(weights, shape, pivot):
    """Return the shape less what it has of the pivot, so that their product is 0."""
    own = whole_product(weights, pivot, pivot)
    shared = whole_product(weights, shape, pivot)
    return thinned([own * one - shared * two for one, two in zip(shape, pivot)])


def shapes_of(line, pace):
    """Return a tuple of as many independent shapes as discs with products pairwise 0."""
    check_line(line)
    check_pace(pace)
    weights = whole_weights(line, pace)
    size = len(line[0])
    waiting = [tuple([1 if place == disc else 0 for place in range(size)]) for disc in range(size)]
    found = []
    while waiting:
        waiting = with_pivot_first(weights, waiting)
        pivot = waiting[0]
        if whole_product(weights, pivot, pivot) == 0:
            return tuple(found + waiting)
        found.append(pivot)
        waiting = [apart_from(weights, shape, pivot) for shape in waiting[1:]]
    return tuple(found)


def are_shapes_apart(line, weights, value, many):
    """Tell whether a value is a tuple of just so many shapes with products pairwise 0."""
    if not isinstance(value, tuple) or len(value) != many:
        return False
    if not all([is_shape(line, shape) for shape in value]):
        return False
    for place, shape in enumerate(value):
        for other in value[:place]:
            if whole_product(weights, shape, other) != 0:
                return False
    return True


def are_independent(shapes):
    """Tell whether no shape is a sum of multiples of the other ones."""
    rows = list(shapes)
    while rows:
        pivot = rows.pop()
        places = [place for place, number in enumerate(pivot) if number != 0]
        if not places:
            return False
        place = places[0]
        cleared = []
        for row in rows:
            row = [number * pivot[place] - row[place] * other for number, other in zip(row, pivot)]
            cleared.append(thinned(row) if any(row) else row)
        rows = cleared
    return True


def is_at_least(line, pace, count, value):
    """Tell whether a value is a tuple of `count` shapes, apart, each with a product below 0 with itself."""
    check_line(line)
    check_pace(pace)
    check_count(line, count)
    weights = whole_weights(line, pace)
    if not are_shapes_apart(line, weights, value, count):
        return False
    return all([whole_product(weights, shape, shape) < 0 for shape in value])


def is_at_most(line, pace, count, value):
    """Tell whether a value is a tuple of the shapes that `count` leaves, apart, independent, none below 0."""
    check_line(line)
    check_pace(pace)
    check_count(line, count)
    weights = whole_weights(line, pace)
    if not are_shapes_apart(line, weights, value, len(line[0]) - count):
        return False
    if not all([whole_product(weights, shape, shape) >= 0 for shape in value]):
        return False
    return are_independent(value)
