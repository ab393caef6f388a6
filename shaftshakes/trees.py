"""Machines as trees: the end, the answer of the root, and how they are told from another disc on.

The table K - L J of a machine is worked with in whole numbers, each row times a scale above 0.
"""

from math import lcm

from shaftshakes.algebra import blend, product_of, thinned
from shaftshakes.ratios import lowest_ratio
from shaftshakes.rationals import divided, multiplied

ONE = (1, 1)


def shaft_of(disc):
    """Return (PARENT, K, RATIO) of a disc other than the root."""
    return disc[2:]


def pull_of(disc):
    """Return how stiff the shaft of a disc is for its parent, through the gear."""
    _, stiffness, ratio = shaft_of(disc)
    return multiplied(stiffness, multiplied(ratio, ratio))


def row_scales(machine):
    """Return for each disc a whole number above 0 that makes all numbers of its row whole."""
    scales = [lcm(disc[0][1], disc[1][1]) for disc in machine]
    for place in range(1, len(machine)):
        parent, stiffness, _ = shaft_of(machine[place])
        scales[place] = lcm(scales[place], stiffness[1])
        scales[parent] = lcm(scales[parent], pull_of(machine[place])[1])
    return scales


def times_scale(fraction, scale):
    """Return a fraction times a whole number that its bottom divides."""
    return fraction[0] * (scale // fraction[1])


def free_part(disc, scale, held, pulled):
    """Return the determinant for a disc and what hangs on it, without the shaft to its parent."""
    own = (times_scale(disc[1], scale), -times_scale(disc[0], scale))
    return blend(product_of(own, held), 1, pulled, 1)


def root_parts(machine):
    """Return the determinants of the table without the root's row and column, and of all of it.

    The latter is times the scale of the root's row, too. For what hangs on a disc, held is the
    product of the determinants of the parts on it with their shafts, and pulled the sum of what
    each part adds to the disc's row, times the determinants of the other ones.
    """
    scales = row_scales(machine)
    held = [(1,) for _ in machine]
    pulled = [() for _ in machine]
    for place in range(len(machine) - 1, 0, -1):
        disc = machine[place]
        parent, stiffness, _ = shaft_of(disc)
        free = free_part(disc, scales[place], held[place], pulled[place])
        shafted = blend(free, 1, held[place], times_scale(stiffness, scales[place]))
        pull = times_scale(pull_of(disc), scales[parent])
        added = product_of(free, held[parent])
        pulled[parent] = blend(product_of(pulled[parent], shafted), 1, added, pull)
        held[parent] = product_of(held[parent], shafted)
    return (held[0], free_part(machine[0], scales[0], held[0], pulled[0]))


def end_of_machine(machine):
    """Return the end, thinned."""
    return thinned(root_parts(machine)[1])


def answer_of_root(machine):
    """Return the answer of the root as a pair (NUM, DEN)."""
    held, whole = root_parts(machine)
    return lowest_ratio(blend(held, row_scales(machine)[0], (), 0), whole)


def path_to_root(machine, disc):
    """Return the list of the discs on the way from a disc to the root, both with it."""
    path = [disc]
    while path[-1] != 0:
        path.append(machine[path[-1]][2])
    return path


def order_from(machine, disc):
    """Return the list of the old indexes of the discs if the machine is told from a disc on."""
    path = path_to_root(machine, disc)
    return path + [place for place in range(len(machine)) if place not in path]


def told_from(machine, disc):
    """Return the machine told from a disc on."""
    path = path_to_root(machine, disc)
    order = order_from(machine, disc)
    discs = [machine[disc][:2]]
    for place in range(1, len(path)):
        shaft = machine[path[place - 1]]
        discs.append(machine[path[place]][:2] + (place - 1, pull_of(shaft), divided(ONE, shaft[4])))
    for place in order[len(path):]:
        parent, stiffness, ratio = shaft_of(machine[place])
        discs.append(machine[place][:2] + (order.index(parent), stiffness, ratio))
    return tuple(discs)
