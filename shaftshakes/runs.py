"""The run of a line, as polynomials with whole numbers, without checks.

An angle is told as a pair (POLYNOMIAL, SCALE): the polynomial divided by a whole number above 0.
"""

from shaftshakes.algebra import blend, raised, thinned
from shaftshakes.places import fraction_place, real_places, sign_at_place
from shaftshakes.rationals import count_changes


def run_parts(line):
    """Return the angles t_0 to t_(n - 1), and, times some numbers above 0, T_1 to T_n and the end."""
    discs, shafts = line
    number, scale = shafts[0]
    turn = (scale,)
    torque = (number,) if number else ()
    angles, torques = [], []
    for place, inertia in enumerate(discs):
        angles.append((turn, scale))
        stiffness = shafts[place + 1]
        torque = blend(torque, inertia[1], raised(turn), -inertia[0])
        torques.append(torque)
        turn = blend(turn, inertia[1] * stiffness[0], torque, stiffness[1])
        torque = blend(torque, stiffness[0], (), 0)
        scale *= inertia[1] * stiffness[0]
    # What would be the angle behind the last shaft, times its stiffness, is the end.
    return (angles, torques, turn)


def thinned_run(line):
    """Return the run's polynomials, each thinned by itself, the end last."""
    angles, _, end = run_parts(line)
    return tuple([thinned(angle[0]) for angle in angles] + [thinned(end)])


def end_places(line):
    """Return the ascending list of the places of all paces."""
    return real_places(thinned_run(line)[-1])


def run_signs(run, place):
    """Return the list of the signs of a run's polynomials at a place.

    Just so many swings are slower as there are sign changes in it.
    """
    return [sign_at_place(polynomial, place) for polynomial in run]


def count_slower(line, pace):
    """Return how many swings are slower than a pace, a fraction."""
    return count_changes(run_signs(thinned_run(line), fraction_place(pace)))


def count_not_faster(line, pace):
    """Return how many swings are not faster than a pace, a fraction."""
    signs = run_signs(thinned_run(line), fraction_place(pace))
    return count_changes(signs) + (1 if signs[-1] == 0 else 0)


def angles_apart(first, second):
    """Return the first angle less the second one, times a number above 0."""
    return blend(first[0], second[1], second[0], -first[1])


def angles_together(first, second):
    """Return the sum of two angles, times a number above 0."""
    return blend(first[0], second[1], second[0], first[1])
