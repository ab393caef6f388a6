"""The checker: each kind of claim with right papers, near ones and none, and what has no form at all."""

import unittest

from odd import Odd
from test_conventions import ALWAYS_WRONG
from shaftshakes.answers import sign_lot
from shaftshakes.boxes import is_in_box
from shaftshakes.changes import with_disc, with_shaft
from shaftshakes.checker import accepts
from shaftshakes.machines import machine_of

ONE, NONE, FOUR = (1, 1), (0, 1), (4, 1)
PAIR = ((ONE, ONE), (ONE, ONE, ONE))
TWO = ((ONE, ONE), (NONE, ONE, NONE))
THREE = ((ONE, ONE, ONE), (NONE, ONE, ONE, NONE))
HELD = ((ONE, ONE), (ONE, ONE, NONE))
HEAVY = with_disc(THREE, 1, (2, 1))
BOX = (HEAVY, THREE)
TWIG = (ONE, NONE, 0, ONE, ONE)
STAR = ((ONE, NONE), TWIG, TWIG, TWIG)
GEARED = ((ONE, NONE), (ONE, NONE, 0, ONE, (2, 1)))
LONE = ((ONE, FOUR),)
BOXER = (TWO, ((0, 0, ONE), (1, 6, ONE)))
KNOT = ((-2, 0, 1), 1)
LOT = ((NONE, True, ONE, False), ((2, 1), False, (3, 1), False))
READINGS = (((1, 1), 1),)
DISC, END = ("disc", 0), ("shaft", 0)

# Claims that are so, each with a paper for it.
TRUE = [
    (("roots", (2, -4, -1, 2), 3), ()),
    (("roots", (1, 0, 1), 0), ()),
    (("roots", (0, 0, 5), 1), ()),
    (("roots", (-7,), 0), ()),
    (("at least", PAIR, (2, 1), 1), ((1, 1),)),
    (("at least", PAIR, (2, 1), 1), ((3, 2),)),
    (("at least", PAIR, (9, 1), 2), ((1, 1), (1, -1))),
    (("at least", PAIR, (2, 1), 0), ()),
    (("at least", PAIR, NONE, 0), ()),
    (("at most", PAIR, (2, 1), 1), ((1, -1),)),
    (("at most", PAIR, (3, 1), 1), ((1, -1),)),
    (("at most", PAIR, NONE, 0), ((1, 1), (1, -1))),
    (("at most", PAIR, (9, 1), 2), ()),
    (("rests", THREE, 1, 1), ()),
    (("moves", THREE, 1, 0), ()),
    (("moves", THREE, 2, 1), ()),
    (("clear", BOX, (1, 2), (3, 4)), ()),
    (("clear", (TWO, TWO), (1, 10 ** 50), (1, 1)), ()),
    (("clashes", BOX, (5, 2), (11, 4)), with_disc(THREE, 1, (5, 4))),
    (("clashes", BOX, (5, 2), (3, 1)), THREE),
    (("clashes", BOX, NONE, (1, 2)), HEAVY),
    (("clashes", (TWO, TWO), (2, 1), (3, 1)), TWO),
    (("louder", PAIR, 0, 1, (1, 2), (1, 2)), ()),
    (("louder", PAIR, 0, 1, (10 ** 90, 1), ONE), ()),
    (("louder", PAIR, 0, 0, (1, 2), NONE), ()),
    (("not louder", PAIR, 0, 1, ONE, (2, 1)), ()),
    (("not louder", PAIR, 0, 0, NONE, (2, 1)), ()),
    (("not louder", PAIR, 1, 0, (1, 3), NONE), ()),
    (("signs", PAIR, 0, 0, 1, LOT), ()),
    (("signs", PAIR, 0, 0, 0, (((2, 1), True, (2, 1), True),)), ()),
    (("signs", PAIR, 0, 1, 0, ()), ()),
    (("left", PAIR, DISC, READINGS), (2, 1)),
    (("left", PAIR, DISC, READINGS), (10 ** 60 + 1, 10 ** 60)),
    (("not left", PAIR, ("shaft", 1), READINGS), ()),
    (("not left", PAIR, DISC, ((ONE, 10 ** 30),)), ()),
    (("same paces", PAIR, PAIR), ()),
    (("same paces", HELD, (HELD[0], HELD[1][::-1])), ()),
    (("other paces", HEAVY, THREE), (5, 2)),
    (("other paces", TWO, THREE), (10, 1)),
    (("other paces", TWO, THREE), (3, 2)),
    (("line of", (1, -1), (0, -2, 1), NONE), TWO),
    (("line of", (-3, 3), (0, 6, -3), NONE), TWO),
    (("line of", (2, -3, 1), (0, -4, 4, -1), NONE), TWO),
    (("line of", (-1,), (-4, 1), ONE), ((ONE,), (ONE, (3, 1)))),
    (("no line", (-1,), (-4, 1), (5, 1)), ()),
    (("no line", (1,), (-4, 1), NONE), ()),
    (("no line", (1,), (1,), NONE), ()),
    (("alike", STAR, machine_of(((ONE, (3, 1)), (NONE, (3, 1), NONE)))), ()),
    (("alike", STAR, STAR), ()),
    (("unlike", STAR, GEARED), (2, 1)),
    (("unlike", STAR, GEARED), FOUR),
    (("unlike", STAR, LONE), NONE),
    (("quiet", STAR, (3, 2), (7, 2)), ()),
    (("noisy", STAR, (3, 2), FOUR), ()),
    (("noisy", STAR, ONE, (2, 1)), ()),
    (("noisy", STAR, NONE, (1, 2)), ()),
    (("stirs", BOXER, 1, 1), ()),
    (("silent", BOXER, 2, 1), ()),
    (("silent", BOXER, -10 ** 30, 1), ()),
]

# Papers with the form of one for claims that are so, which show nothing; and claims that are not so.
FALSE = [
    (("roots", (2, -4, -1, 2), 2), ()), (("roots", (2, -4, -1, 2), 4), ()), (("roots", (2, -4, -1, 2), -3), ()),
    (("roots", (2, -4, -1, 2), 10 ** 30), ()),
    (("at least", PAIR, (2, 1), 1), ((1, 0),)), (("at least", PAIR, (2, 1), 1), ((1, -1),)),
    (("at least", PAIR, (2, 1), 1), ((0, 0),)), (("at least", PAIR, (3, 1), 2), ((1, 1), (1, -1))),
    (("at least", PAIR, (9, 1), 2), ((1, 1), (1, 0))), (("at least", PAIR, (9, 1), 2), ((1, 1), (1, 1))),
    (("at least", PAIR, (2, 1), 1), ()), (("at least", PAIR, (2, 1), 0), ((1, 1),)),
    (("at least", PAIR, (9, 1), 2), ((1, 1),)),
    (("at most", PAIR, (2, 1), 1), ((1, 1),)), (("at most", PAIR, (2, 1), 1), ((0, 0),)), (("at most", PAIR, (2, 1), 1), ()),
    (("at most", PAIR, NONE, 0), ((1, -1), (1, -1))), (("at most", PAIR, NONE, 0), ((1, -1), (2, -2))),
    (("at most", PAIR, ONE, 0), ((1, 0), (0, 1))), (("at most", PAIR, (9, 1), 2), ((1, 1),)),
    (("rests", THREE, 1, 0), ()), (("moves", THREE, 1, 1), ()), (("rests", THREE, 2, 1), ()),
    (("clear", BOX, (5, 2), (11, 4)), ()), (("clear", BOX, (3, 1), FOUR), ()),
    (("clashes", BOX, (5, 2), (11, 4)), THREE), (("clashes", BOX, (5, 2), (11, 4)), HEAVY),
    (("clashes", BOX, (5, 2), (11, 4)), with_disc(THREE, 0, (5, 4))), (("clashes", BOX, FOUR, (5, 1)), THREE),
    (("clashes", BOX, (7, 2), FOUR), with_shaft(THREE, 1, (3, 2))), (("clashes", BOX, (1, 2), (2, 1)), TWO),
    (("louder", PAIR, 0, 1, ONE, (2, 1)), ()), (("not louder", PAIR, 0, 1, (10 ** 90, 1), ONE), ()),
    (("louder", PAIR, 0, 0, NONE, (2, 1)), ()), (("not louder", PAIR, 0, 1, (1, 2), (1, 2)), ()),
    (("signs", PAIR, 0, 0, -1, LOT), ()), (("signs", PAIR, 0, 1, 1, LOT), ()), (("signs", PAIR, 0, 0, 1, LOT[:1]), ()),
    (("signs", PAIR, 0, 0, 1, ((NONE, True, ONE, True), LOT[1])), ()), (("signs", PAIR, 0, 0, 1, ()), ()),
    (("signs", PAIR, 0, 0, 1, ((NONE, False, ONE, False), LOT[1])), ()),
    (("left", PAIR, DISC, READINGS), ONE), (("left", PAIR, DISC, READINGS), (1, 2)),
    (("left", PAIR, ("shaft", 1), READINGS), ONE), (("not left", PAIR, DISC, READINGS), ()),
    (("left", PAIR, DISC, READINGS + ((ONE, 0),)), (2, 1)),
    (("same paces", HEAVY, THREE), ()), (("same paces", TWO, THREE), ()), (("same paces", PAIR, HELD), ()),
    (("other paces", HEAVY, THREE), (1, 2)), (("other paces", HEAVY, THREE), (2, 1)), (("other paces", HEAVY, THREE), NONE),
    (("other paces", PAIR, PAIR), ONE), (("other paces", TWO, THREE), (1, 2)),
    (("line of", (1, -1), (0, -2, 1), NONE), ((ONE, ONE), (NONE, (2, 1), NONE))),
    (("line of", (1, -1), (0, -2, 1), ONE), TWO), (("line of", (1, -1), (0, 2, -1), NONE), TWO),
    (("line of", (-1,), (-4, 1), ONE), ((ONE,), ((2, 1), (2, 1)))), (("line of", (-1,), (-4, 1), ONE), ((ONE,), (ONE, ONE))),
    (("no line", (1, -1), (0, -2, 1), NONE), ()), (("no line", (2, -2), (0, -4, 2), NONE), ()),
    (("alike", STAR, GEARED), ()), (("alike", LONE, STAR), ()),
    # At 0 both are endless, at 1 both are 0.
    (("unlike", STAR, GEARED), NONE), (("unlike", STAR, GEARED), ONE), (("unlike", STAR, STAR), (2, 1)),
    (("quiet", STAR, (3, 2), FOUR), ()), (("quiet", STAR, ONE, (2, 1)), ()), (("noisy", STAR, (3, 2), (7, 2)), ()),
    (("stirs", BOXER, 2, 1), ()), (("silent", BOXER, 1, 1), ()), (("stirs", BOXER, 1, 0), ()),
]

NO_LINES = [None, (), TWO[:1], list(PAIR), ((ONE, ONE), (ONE, NONE, ONE)), STAR, BOX]
NO_MACHINES = [None, (), PAIR, STAR + (TWIG,) * 5, (ONE, NONE), list(STAR), STAR[1:]]


class Claims(unittest.TestCase):
    def refused(self, claim, paper):
        self.assertIs(False, accepts(claim, paper))

    def test_true_ones(self):
        for claim, paper in TRUE:
            with self.subTest(claim=claim, paper=paper):
                self.assertIs(True, accepts(claim, paper))
                self.assertIs(True, accepts(claim=claim, paper=paper))

    def test_false_ones_and_near_papers(self):
        for claim, paper in FALSE:
            with self.subTest(claim=claim, paper=paper):
                self.refused(claim, paper)

    def test_all_kinds_are_there(self):
        kinds = {claim[0] for claim, _ in TRUE}
        self.assertEqual(22, len(kinds))
        self.assertEqual(kinds, {claim[0] for claim, _ in FALSE})

    def test_of_two_that_exclude_one_another_one_at_most(self):
        opposites = {"rests": "moves", "clear": "clashes", "louder": "not louder", "left": "not left",
                     "same paces": "other paces", "line of": "no line", "alike": "unlike", "quiet": "noisy",
                     "stirs": "silent"}
        opposites.update({other: kind for kind, other in opposites.items()})
        papers = [(), THREE, HEAVY, TWO, ONE, (2, 1), (1, 2), (5, 2), NONE, ((1, 1),)]
        for claim, _ in TRUE:
            if claim[0] in opposites:
                for paper in papers:
                    with self.subTest(claim=claim, paper=paper):
                        self.refused((opposites[claim[0]],) + claim[1:], paper)

    def test_papers_with_no_form(self):
        plain = [None, 0, True, "", [], {}, ((),), (0,), NONE, ONE, "()", Odd(), (Odd(),), PAIR]
        for claim, paper in TRUE:
            for wrong in plain + ALWAYS_WRONG:
                if paper == () and type(wrong) is tuple and len(wrong) == 0:
                    continue
                if claim[0] in ("other paces", "unlike", "left", "clashes", "line of") and type(wrong) is tuple:
                    continue
                with self.subTest(claim=claim):
                    self.refused(claim, wrong)
            if paper != ():
                self.refused(claim, list(paper))
                self.refused(claim, (paper,))
                self.refused(claim, paper + (1,))
                self.refused(claim, ())

    def test_papers_with_wrong_parts(self):
        least, most = ("at least", PAIR, (2, 1), 1), ("at most", PAIR, (2, 1), 1)
        for claim, good in ((least, (1, 1)), (most, (1, -1))):
            for paper in ((good, good), (list(good),), (good + (0,),), (good[:1],), ((good[0], None),), ((True, good[1]),),
                          ((good[0], "1"),), good, (None,), ((good[0], (1, 1)),), [good]):
                self.refused(claim, paper)
        for paper in (((2, 1), 0), (4, 2), (2, True), (2, -1), (-2, 1), NONE, 2, KNOT, None, ("2", 1)):
            self.refused(("left", PAIR, DISC, READINGS), paper)
        for paper in ((10, 4), (-5, 2), (5, True), KNOT, (5, 2, 1), [5, 2], NONE, 3, None):
            self.refused(("other paces", HEAVY, THREE), paper)
            self.refused(("unlike", STAR, GEARED), paper)
        for paper in (list(TWO), TWO + ((),), (TWO,), (TWO[0], list(TWO[1])), STAR, None, HELD, (((1, 1), (2, 2)), TWO[1])):
            self.refused(("line of", (1, -1), (0, -2, 1), NONE), paper)
            self.refused(("clashes", (TWO, TWO), (2, 1), (3, 1)), paper)

    def test_claims_with_no_form(self):
        for claim in ALWAYS_WRONG + [None, 0, (), ("rests",), "rests", ("roots",), ("Rests", THREE, 1, 1), (None, THREE, 1, 1),
                                     (("rests",), THREE, 1, 1), ("rest", THREE, 1, 1), (b"rests", THREE, 1, 1), (Odd(),),
                                     (Odd(), THREE, 1, 1), ("", THREE, 1, 1), ("is quiet", STAR, ONE, (2, 1))]:
            with self.subTest(claim=str(type(claim))):
                self.refused(claim, ())
                self.refused(claim, None)

    def test_parts_too_few_and_too_many(self):
        for claim, paper in TRUE:
            self.refused(claim[:-1], paper)
            self.refused(claim + (claim[-1],), paper)
            self.refused(claim + ((),), paper)
            self.refused(list(claim), paper)
            self.refused((claim,), paper)
            self.refused(claim[1:], paper)

    def test_each_part_wrong(self):
        for claim, paper in TRUE:
            for place in range(1, len(claim)):
                for wrong in (None, True, "1", [], {}, Odd(), (Odd(), Odd()), ((1, True), 1), (1, 0), (2, True),
                              [claim[place]], claim):
                    with self.subTest(claim=claim, place=place):
                        self.refused(claim[:place] + (wrong,) + claim[place + 1:], paper)

    def test_lines_machines_boxes_and_engines_that_are_none(self):
        for claim, paper in TRUE:
            wrong = NO_MACHINES if claim[0] in ("alike", "unlike", "quiet", "noisy") else NO_LINES
            if claim[0] not in ("roots", "line of", "no line"):
                for part in wrong:
                    if not (claim[0] in ("clear", "clashes") and part == BOX):
                        self.refused((claim[0], part) + claim[2:], paper)
            if claim[0] in ("same paces", "other paces", "alike", "unlike"):
                for part in wrong:
                    self.refused(claim[:2] + (part,), paper)
        for box in (BOX[::-1], (THREE, TWO), (THREE,), [HEAVY, THREE], (HEAVY, THREE, THREE)):
            self.refused(("clear", box, (1, 2), (3, 4)), ())
        for engine in ((TWO, ()), (TWO, ((2, 0, ONE),)), (TWO, BOXER[1] * 5), [TWO, BOXER[1]], (STAR, BOXER[1])):
            self.refused(("stirs", engine, 1, 1), ())
            self.refused(("silent", engine, 1, 1), ())

    def test_counts_and_indexes_out_of_reach(self):
        self.assertIs(True, accepts(("at least", PAIR, (9, 1), 2), ((1, 1), (1, -1))))
        self.refused(("at least", PAIR, (9, 1), 3), ((1, 1), (1, -1), (1, 0)))
        self.refused(("at most", PAIR, (9, 1), 3), ())
        self.refused(("at least", PAIR, (9, 1), -1), ())
        self.refused(("at most", PAIR, (9, 1), -1), ((1, 1), (1, -1), (1, 0)))
        for kind in ("rests", "moves"):
            for index, disc in ((3, 1), (1, 3), (-1, 1), (1, -1), (10 ** 30, 0), (True, 0), (1, True)):
                self.refused((kind, THREE, index, disc), ())
        for kind in ("stirs", "silent"):
            for index in (2, -1, None, True):
                self.refused((kind, BOXER, 1, index), ())
            for order in (None, True, (1, 1)):
                self.refused((kind, BOXER, order, 1), ())
        for kind in ("louder", "not louder"):
            for discs in ((0, 2), (2, 0), (-1, 0), (0, True), (None, 0)):
                self.refused((kind, PAIR) + discs + (ONE, (2, 1)), ())

    def test_ends_of_stretches(self):
        for kind, part in (("clear", (TWO, TWO)), ("quiet", GEARED), ("noisy", STAR), ("clashes", (TWO, TWO))):
            for low, high in ((ONE, ONE), ((3, 1), (2, 1)), ((-1, 1), FOUR), (None, FOUR), (NONE, None), (NONE, KNOT)):
                for paper in ((), TWO):
                    self.refused((kind, part, low, high), paper)
        # HIGH itself belongs to them, LOW too.
        self.assertIs(True, accepts(("clashes", (TWO, TWO), ONE, (2, 1)), TWO))
        self.assertIs(True, accepts(("noisy", STAR, (7, 2), FOUR), ()))
        self.assertIs(True, accepts(("noisy", STAR, FOUR, (5, 1)), ()))

    def test_lots_told_by_other_knots(self):
        lot = sign_lot(HELD, 0, 0, 1)
        self.assertEqual((1, -3, 1), lot[0][2][0])
        self.assertIs(True, accepts(("signs", HELD, 0, 0, 1, lot), ()))
        # The same numbers as roots of (1 - 3 L + L L) (L L - 2), and others near to them.
        longer = (-2, 6, -1, -3, 1)
        low, high = (longer, 1), (longer, 3)
        self.assertIs(True, accepts(("signs", HELD, 0, 0, 1, ((NONE, True, low, False), (ONE, False, high, False))), ()))
        self.refused(("signs", HELD, 0, 0, 1, ((NONE, True, low, False), (ONE, False, (longer, 2), False))), ())
        self.refused(("signs", HELD, 0, 0, 1, ((NONE, True, (longer, 4), False), (ONE, False, high, False))), ())
        self.refused(("signs", HELD, 0, 0, 1, ((NONE, True, low, True), (ONE, False, high, False))), ())
        self.refused(("signs", HELD, 0, 0, 1, lot + (((9, 1), True, None, False),)), ())
        self.refused(("signs", HELD, 0, 0, 2, lot), ())
        self.refused(("signs", HELD, 0, 0, True, lot), ())
        self.assertIs(True, accepts(("signs", PAIR, 0, 0, True - 0, LOT), ()))

    def test_slots_and_readings(self):
        for slot in (("disc", 2), ("shaft", 3), ("disk", 0), ["disc", 0], ("disc",), None, ("disc", True), (Odd(), 0)):
            self.refused(("left", PAIR, slot, READINGS), (2, 1))
            self.refused(("not left", PAIR, slot, READINGS), ())
        for readings in ((), list(READINGS), READINGS * 9, READINGS[0], ((NONE, 0),), ((ONE, -1),), ((ONE, True),), (None,)):
            self.refused(("left", PAIR, DISC, readings), (2, 1))
            self.refused(("not left", PAIR, DISC, readings), ())
        self.assertIs(True, accepts(("left", PAIR, DISC, READINGS * 8), (2, 1)))

    def test_first_stiffness_and_answer(self):
        for stay in ((-1, 1), None, (2, 2), 0, KNOT):
            self.refused(("line of", (1, -1), (0, -2, 1), stay), TWO)
            self.refused(("no line", (1,), (1,), stay), ())
        for num, den in (((), (0, -2, 1)), ((1, -1), ()), ((1, 0), (1,)), ([1], (1,)), ((1,), None)):
            self.refused(("line of", num, den, NONE), TWO)
            self.refused(("no line", num, den, NONE), ())
        nine = ((ONE,) * 9, (ONE,) * 10)
        self.refused(("clashes", (nine, nine), ONE, FOUR), nine)

    def test_the_paper_is_in_the_box(self):
        line = with_disc(THREE, 1, (5, 4))
        self.assertIs(True, is_in_box(BOX, line))
        self.assertIs(False, accepts(("clashes", (THREE, THREE), (5, 2), (11, 4)), line))
        # A line outside of the box with such a pace.
        self.refused(("clashes", (TWO, TWO), (5, 2), (11, 4)), ((ONE, (2, 3)), TWO[1]))


if __name__ == "__main__":
    unittest.main()
