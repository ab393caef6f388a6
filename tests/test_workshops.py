"""Workshops: lines under names, wishes that always hold, taking back, trials."""

import random
import unittest
from unittest import mock

from chance import random_line, random_number
from odd import Odd
from shaftshakes.answers import answer_of
from shaftshakes.backs import rewalled
from shaftshakes.changes import change_signs, with_disc
from shaftshakes.errors import Broken, InUse, InvalidIndex, InvalidLine, InvalidName, InvalidWish, NothingToUndo
from shaftshakes.errors import ShaftError, UnknownName
from shaftshakes.lines import compare_pace, slower_count
from shaftshakes.shapes import resting_discs
from shaftshakes.workshops import Workshop

ONE, NONE = (1, 1), (0, 1)
TWO = ((ONE, ONE), (NONE, ONE, NONE))
THREE = ((ONE, ONE, ONE), (NONE, ONE, ONE, NONE))
HEAVY = with_disc(THREE, 1, (2, 1))
HELD = ((ONE, ONE), (ONE, ONE, NONE))
FREE = rewalled(HELD, NONE)
NAMES = ["a", "bb", "shaft", "abcdefghijkl", "zzz"]


class Failure(BaseException):
    """An exception of no usual kind."""


NO_NAMES = [None, True, 0, "", "Shaft", "shaft1", "a b", " a", "a ", "a-b", "abcdefghijklm", ("a",), ["a"], b"a", Odd(), {}]


def filled(**lines):
    shop = Workshop()
    for name, line in lines.items():
        shop.put(name, line)
    return shop


def seen(shop):
    """All that a workshop tells."""
    return len(shop), shop.names, [shop.named(name) for name in shop.names], shop.wishes


class Check(unittest.TestCase):
    def fails(self, shop, error, attribute, told, action, *arguments):
        """Something raises an error that tells so, and changes nothing."""
        before = seen(shop)
        with self.assertRaises(ShaftError) as caught:
            action(*arguments)
        self.assertIs(error, type(caught.exception))
        if attribute == "given":
            self.assertIs(told, caught.exception.given)
        elif attribute:
            self.assertEqual(told, caught.exception.index)
        self.assertEqual(before, seen(shop))


class Lines(Check):
    def test_new(self):
        shop = Workshop()
        self.assertEqual((0, (), [], ()), seen(shop))

    def test_put_and_named(self):
        shop = Workshop()
        self.assertIsNone(shop.put("b", TWO))
        self.assertIsNone(shop.put(name="a", line=THREE))
        self.assertEqual((("a", "b"), THREE, TWO, 2), (shop.names, shop.named("a"), shop.named(name="b"), len(shop)))
        shop.put("a", HEAVY)
        self.assertEqual((("a", "b"), HEAVY, 3), (shop.names, shop.named("a"), len(shop)))
        self.assertIs(HEAVY, shop.named("a"))

    def test_names_of_one_letter_and_of_twelve(self):
        shop = Workshop()
        for name in ("z", "abcdefghijkl", "zzzzzzzzzzzz", "a"):
            shop.put(name, TWO)
        self.assertEqual(("a", "abcdefghijkl", "z", "zzzzzzzzzzzz"), shop.names)

    def test_no_names(self):
        shop = filled(a=TWO)
        for name in NO_NAMES:
            self.fails(shop, InvalidName, "given", name, shop.put, name, TWO)
            self.fails(shop, InvalidName, "given", name, shop.put, name, None)
            self.fails(shop, UnknownName, "given", name, shop.drop, name)
            self.fails(shop, UnknownName, "given", name, shop.named, name)
        for line in (None, (), TWO[:1], list(TWO), Odd()):
            self.fails(shop, InvalidLine, "given", line, shop.put, "a", line)
            self.fails(shop, InvalidLine, "given", line, shop.put, "b", line)

    def test_drop(self):
        shop = filled(a=TWO, b=THREE)
        self.assertIsNone(shop.drop("a"))
        self.assertEqual((("b",), 3), (shop.names, len(shop)))
        self.fails(shop, UnknownName, "given", "a", shop.drop, "a")
        self.fails(shop, UnknownName, "given", "a", shop.named, "a")
        shop.drop(name="b")
        self.assertEqual(((), 4), (shop.names, len(shop)))

    def test_in(self):
        shop = filled(a=TWO, abc=THREE)
        self.assertEqual([True, True, False, False], [name in shop for name in ("a", "abc", "b", "ab")])
        for name in NO_NAMES + [TWO, shop]:
            self.assertIs(False, name in shop)
        shop.drop("a")
        self.assertEqual([False, True], ["a" in shop, "a" not in shop])


class Wishes(Check):
    def setUp(self):
        self.shop = filled(two=TWO, three=THREE, heavy=HEAVY, held=HELD, free=FREE)

    def holds(self, *wish):
        before = self.shop.wishes
        self.assertIsNone(self.shop.wish(wish))
        self.assertEqual(before + (wish,), self.shop.wishes)
        self.assertIs(wish, self.shop.wishes[-1])

    def breaks(self, *wish):
        self.fails(self.shop, Broken, "index", len(self.shop.wishes), self.shop.wish, wish)

    def test_slower(self):
        self.holds("slower", "three", (2, 1), 2)
        self.holds("slower", "three", (3, 1), 2)
        self.holds("slower", "three", (4, 1), 3)
        for pace, count in (((1, 1), 2), ((3, 1), 3), ((4, 1), 4), ((4, 1), 10 ** 30), ((1, 2), 0)):
            self.breaks("slower", "three", pace, count)

    def test_clear(self):
        self.holds("clear", "three", (3, 2), (5, 2))
        self.holds("clear", "three", (1, 10 ** 40), (1, 2))
        self.holds("clear", "held", NONE, (1, 3))
        for low, high in ((NONE, (1, 2)), ((1, 2), ONE), (ONE, (2, 1)), ((2, 1), (3, 1)), ((1, 2), (5, 1))):
            self.breaks("clear", "three", low, high)

    def test_rests(self):
        self.holds("rests", "three", 1, 1)
        for index, disc in ((0, 1), (2, 1), (1, 0), (1, 2), (3, 1), (1, 3), (3, 3), (10 ** 30, 1), (1, 10 ** 30)):
            self.breaks("rests", "three", index, disc)

    def test_alike(self):
        self.assertEqual(answer_of(HELD, 0, 0), answer_of(FREE, 0, 0))
        self.holds("alike", "held", "free")
        self.holds("alike", "free", "held")
        self.holds("alike", "two", "two")
        for one, two in (("two", "three"), ("three", "heavy"), ("held", "two")):
            self.breaks("alike", one, two)

    def test_faster(self):
        self.holds("faster", "held", "two")
        # Their slowest swings have the pace 0; as many discs are wanted; no line is faster than itself.
        for one, two in (("two", "held"), ("three", "heavy"), ("held", "held"), ("three", "two"), ("held", "three")):
            self.breaks("faster", one, two)

    def test_twice(self):
        wish = ("rests", "three", 1, 1)
        self.holds(*wish)
        self.shop.wish(wish)
        self.assertEqual((wish, wish), self.shop.wishes)
        self.fails(self.shop, Broken, "index", 0, self.shop.put, "three", TWO)
        self.shop.lift(0)
        self.assertEqual((wish,), self.shop.wishes)
        self.fails(self.shop, Broken, "index", 0, self.shop.put, "three", TWO)

    def test_no_wishes(self):
        for wish in (None, (), 0, "alike", ["alike", "two", "two"], ("alike",), ("alike", "two"), ("alike", "two", "two", 1),
                     ("Alike", "two", "two"), ("alike", "two", "Two"), ("alike", "", "two"), ("alike", "two", None),
                     ("alike", Odd(), "two"), (Odd(), "two", "two"), ("slower", "two", ONE), ("slower", "two", ONE, -1),
                     ("slower", "two", ONE, True), ("slower", "two", NONE, 0), ("slower", "two", (2, 2), 1),
                     ("slower", "two", (-1, 1), 0), ("slower", "two", ((-2, 0, 1), 1), 1), ("slower", "two", 1, 1),
                     ("slower", "two", ONE, 1, 1), ("slower", "two2", ONE, 1), ("slower", None, ONE, 1),
                     ("clear", "two", ONE, ONE), ("clear", "two", ONE, NONE), ("clear", "two", (-1, 1), ONE),
                     ("clear", "two", ONE), ("clear", "two", ONE, None), ("clear", "two", NONE, (2, 4)),
                     ("rests", "two", 0), ("rests", "two", 0, -1), ("rests", "two", -1, 0), ("rests", "two", True, 0),
                     ("rests", "two", 0, (0, 1)), ("rests", ("two",), 0, 0), ("faster", "two"), ("faster", "two", 0),
                     ("moves", "two", 0, 0), ("", "two", "two"), (b"alike", "two", "two"), (("alike", "two", "two"),),
                     ("alike", "abcdefghijklm", "two"), Odd(), (Odd(), Odd(), Odd()), TWO):
            self.fails(self.shop, InvalidWish, "given", wish, self.shop.wish, wish)

    def test_unknown_names(self):
        for wish, name in ((("slower", "none", ONE, 9), "none"), (("alike", "none", "nil"), "none"),
                           (("alike", "two", "nil"), "nil"), (("faster", "none", "two"), "none"),
                           (("rests", "x", 0, 0), "x"), (("clear", "x", NONE, ONE), "x")):
            before = seen(self.shop)
            with self.assertRaises(UnknownName) as caught:
                self.shop.wish(wish)
            self.assertEqual(name, caught.exception.given)
            self.assertEqual(before, seen(self.shop))

    def test_a_line_put_in_the_place_of_another_one(self):
        self.holds("slower", "two", (2, 1), 1)
        self.holds("rests", "three", 1, 1)
        self.holds("clear", "three", (3, 2), (5, 2))
        self.fails(self.shop, Broken, "index", 2, self.shop.put, "three", HEAVY)
        self.fails(self.shop, Broken, "index", 1, self.shop.put, "three", TWO)
        self.fails(self.shop, Broken, "index", 0, self.shop.put, "two", HEAVY)
        self.assertIsNone(self.shop.put("three", (THREE[0], (NONE, ONE, ONE, NONE))))
        self.assertIsNone(self.shop.put("two", ((ONE,), (NONE, NONE))))

    def test_wishes_with_two_names_watch_both(self):
        self.holds("alike", "held", "free")
        self.holds("faster", "held", "two")
        self.fails(self.shop, Broken, "index", 0, self.shop.put, "free", TWO)
        self.fails(self.shop, Broken, "index", 0, self.shop.put, "held", TWO)
        self.fails(self.shop, Broken, "index", 1, self.shop.put, "two", THREE)
        self.fails(self.shop, InUse, "index", 0, self.shop.drop, "held")
        self.fails(self.shop, InUse, "index", 0, self.shop.drop, "free")
        self.fails(self.shop, InUse, "index", 1, self.shop.drop, "two")
        self.shop.lift(0)
        self.shop.drop("free")
        self.fails(self.shop, InUse, "index", 0, self.shop.drop, "held")

    def test_lift(self):
        self.holds("slower", "two", ONE, 1)
        self.holds("rests", "three", 1, 1)
        self.holds("slower", "two", (3, 1), 2)
        for index in (-1, 3, None, True, False, (0, 1), "0", 10 ** 30, Odd()):
            self.fails(self.shop, InvalidIndex, "given", index, self.shop.lift, index)
        self.assertIsNone(self.shop.lift(1))
        self.assertEqual((("slower", "two", ONE, 1), ("slower", "two", (3, 1), 2)), self.shop.wishes)
        self.shop.lift(index=0)
        self.shop.lift(0)
        self.assertEqual((), self.shop.wishes)
        self.fails(self.shop, InvalidIndex, "given", 0, self.shop.lift, 0)
        self.assertEqual(5 + 3 + 3, len(self.shop))


class Undone(Check):
    def test_each_kind_of_change(self):
        shop = Workshop()
        states = [seen(shop)]
        for action, arguments in ((shop.put, ("a", THREE)), (shop.put, ("b", TWO)), (shop.wish, (("rests", "a", 1, 1),)),
                                  (shop.put, ("a", (THREE[0], THREE[1]))), (shop.drop, ("b",)), (shop.lift, (0,)),
                                  (shop.put, ("a", TWO))):
            action(*arguments)
            states.append(seen(shop))
        self.assertEqual(list(range(8)), [state[0] for state in states])
        while len(shop):
            self.assertEqual(states.pop(), seen(shop))
            self.assertIsNone(shop.undo())
        self.assertEqual(states, [seen(shop)])
        self.fails(shop, NothingToUndo, None, None, shop.undo)

    def test_a_change_that_leaves_everything_as_it_is(self):
        shop = filled(a=TWO)
        shop.put("a", TWO)
        self.assertEqual(2, len(shop))
        shop.undo()
        self.assertEqual((1, TWO), (len(shop), shop.named("a")))

    def test_what_fails_is_no_change(self):
        shop = filled(a=THREE)
        shop.wish(("rests", "a", 1, 1))
        for action, argument in ((shop.put, ("a", TWO)), (shop.drop, ("a",)), (shop.wish, (None,)), (shop.lift, (1,))):
            self.assertRaises(ShaftError, action, *argument)
        shop.undo()
        self.assertEqual((1, ()), (len(shop), shop.wishes))
        shop.undo()
        self.assertEqual((0, ()), (len(shop), shop.names))

    def test_other_changes_after_it(self):
        shop = filled(a=TWO, b=THREE)
        shop.undo()
        shop.put("c", HEAVY)
        self.assertEqual((("a", "c"), 2), (shop.names, len(shop)))
        shop.undo()
        shop.undo()
        self.assertRaises(NothingToUndo, shop.undo)


class Trials(Check):
    def test_a_good_end(self):
        shop = filled(a=TWO)
        with shop.trial() as same:
            self.assertIs(shop, same)
            same.put("b", THREE)
        self.assertEqual((2, ("a", "b")), seen(shop)[:2])
        shop.undo()
        self.assertEqual((1, ("a",)), seen(shop)[:2])

    def test_a_call_alone_changes_nothing(self):
        shop = filled(a=TWO)
        before = seen(shop)
        trial = shop.trial()
        self.assertEqual(before, seen(shop))
        shop.put("b", TWO)
        with self.assertRaises(KeyError):
            with trial:
                shop.drop("a")
                raise KeyError("x")
        # It is as it was when the block began, not when the trial was asked for.
        self.assertEqual((2, ("a", "b")), seen(shop)[:2])

    def test_exceptions_of_any_kind(self):
        for error in (ValueError("x"), KeyError(1), Failure(), KeyboardInterrupt(), SystemExit(3), GeneratorExit(),
                      StopIteration(), Broken(7)):
            shop = filled(a=TWO, b=THREE)
            shop.wish(("rests", "b", 1, 1))
            before = seen(shop)
            with self.assertRaises(type(error)) as caught:
                with shop.trial():
                    shop.lift(0)
                    shop.drop("b")
                    shop.put("c", HEAVY)
                    raise error
            self.assertIs(error, caught.exception)
            self.assertEqual(before, seen(shop))
            shop.undo()
            self.assertEqual((("a", "b"), ()), (shop.names, shop.wishes))

    def test_an_error_of_the_workshop_itself(self):
        shop = filled(a=THREE)
        before = seen(shop)
        with self.assertRaises(UnknownName):
            with shop.trial() as tried:
                tried.put("b", TWO)
                tried.drop("c")
        self.assertEqual(before, seen(shop))

    def test_one_that_is_caught_within(self):
        shop = filled(a=TWO)
        with shop.trial():
            shop.put("b", TWO)
            self.assertRaises(UnknownName, shop.drop, "c")
        self.assertEqual((2, ("a", "b")), seen(shop)[:2])

    def test_undo_of_what_was_changed_before_it(self):
        shop = filled(a=TWO, b=THREE, c=HEAVY)
        before = seen(shop)
        with self.assertRaises(Failure):
            with shop.trial():
                shop.undo()
                shop.undo()
                shop.put("d", TWO)
                raise Failure()
        self.assertEqual(before, seen(shop))
        for many in (2, 1, 0):
            shop.undo()
            self.assertEqual(many, len(shop))
        shop = filled(a=TWO, b=THREE, c=HEAVY)
        with shop.trial():
            shop.undo()
            shop.undo()
        self.assertEqual((1, ("a",)), seen(shop)[:2])

    def test_one_within_another(self):
        shop = filled(a=TWO)
        before = seen(shop)
        with self.assertRaises(Failure):
            with shop.trial():
                shop.put("b", TWO)
                inner = seen(shop)
                with self.assertRaises(KeyError):
                    with shop.trial():
                        shop.put("c", TWO)
                        shop.undo()
                        shop.undo()
                        shop.undo()
                        raise KeyError("x")
                self.assertEqual(inner, seen(shop))
                with shop.trial():
                    shop.put("d", TWO)
                self.assertEqual(("a", "b", "d"), shop.names)
                raise Failure()
        self.assertEqual(before, seen(shop))
        with shop.trial():
            with shop.trial():
                with shop.trial():
                    shop.put("e", TWO)
        self.assertEqual((2, ("a", "e")), seen(shop)[:2])

    def test_left_early(self):
        shop = filled(a=TWO)

        def early():
            with shop.trial():
                shop.put("b", TWO)
                return 5

        self.assertEqual((5, ("a", "b")), (early(), shop.names))
        for _ in range(2):
            with shop.trial():
                shop.drop("b")
                break
        self.assertEqual(("a",), shop.names)

    def test_tried(self):
        shop = filled(a=TWO)
        self.assertEqual("done", shop.tried(lambda same: [same.put("b", THREE), "done"][1]))
        self.assertEqual(("a", "b"), shop.names)
        self.assertIs(shop, shop.tried(action=lambda same: same))
        self.assertIsNone(shop.tried(lambda same: same.undo()))
        before = seen(shop)

        def fails(same):
            same.put("c", THREE)
            same.tried(lambda other: other.put("d", TWO))
            raise Failure()

        self.assertRaises(Failure, shop.tried, fails)
        self.assertEqual(before, seen(shop))


class Objects(unittest.TestCase):
    def test_truth_and_length(self):
        shop = Workshop()
        self.assertIs(True, bool(shop))
        self.assertEqual(0, len(shop))
        shop.put("a", TWO)
        self.assertIs(True, bool(shop))
        self.assertEqual(1, len(shop))

    def test_equal_to_itself_alone(self):
        shop, other = Workshop(), Workshop()
        self.assertEqual([True, False, False, True], [shop == shop, shop != shop, shop == other, shop != other])
        for value in (None, 0, (), Odd(), [shop], mock.ANY):
            self.assertEqual([False, True], [shop == value, shop != value])

    def test_two_workshops_are_apart(self):
        shop, other = filled(a=TWO), filled(b=THREE)
        shop.wish(("slower", "a", ONE, 1))
        self.assertEqual([("a",), ("b",), ()], [shop.names, other.names, other.wishes])

    def test_what_is_told_does_not_change_it(self):
        shop = filled(a=TWO)
        names, wishes = shop.names, shop.wishes
        shop.put("b", TWO)
        shop.wish(("slower", "a", ONE, 1))
        self.assertEqual((("a",), ()), (names, wishes))
        self.assertEqual((tuple, tuple), (type(shop.names), type(shop.wishes)))


class ByChance(Check):
    def wish_of(self, chance, shop):
        """A wish of chance, about names that are there and some that are not."""
        one, two = chance.choice(NAMES), chance.choice(NAMES)
        kind = chance.choice(["slower", "clear", "rests", "alike", "faster"])
        if kind == "slower":
            pace = random_number(chance, 9)
            return (kind, one, pace, slower_count(shop.named(one), pace) if one in shop else 1)
        if kind == "clear":
            return (kind, one, (chance.randint(0, 9), 1), (chance.randint(10, 60), 7))
        if kind == "rests":
            return (kind, one, chance.randint(0, 3), chance.randint(0, 2))
        return (kind, one, two)

    def is_so(self, wish, shop):
        kind, line = wish[0], shop.named(wish[1])
        if kind == "slower":
            return slower_count(line, wish[2]) == wish[3]
        if kind == "clear":
            return not any(compare_pace(line, index, wish[2]) >= 0 >= compare_pace(line, index, wish[3])
                           for index in range(len(line[0])))
        if kind == "rests":
            return wish[2] < len(line[0]) and wish[3] in resting_discs(line, wish[2])
        other = shop.named(wish[2])
        if kind == "alike":
            return answer_of(line, 0, 0) == answer_of(other, 0, 0)
        return len(line[0]) == len(other[0]) and set(change_signs(line, other)) == {1}

    def change(self, chance, shop):
        part = chance.random()
        if part < 0.45:
            line = chance.choice([TWO, THREE, HEAVY, HELD, FREE, random_line(chance, chance.randint(1, 3))])
            shop.put(chance.choice(NAMES), line)
        elif part < 0.55:
            shop.drop(chance.choice(NAMES))
        elif part < 0.85:
            shop.wish(self.wish_of(chance, shop))
        elif part < 0.95:
            shop.lift(chance.randrange(4))
        else:
            shop.undo()

    def test_wishes_hold_and_undoing_leads_back(self):
        chance = random.Random(1401)
        shop, states, failed = Workshop(), [], 0
        for _ in range(500):
            before = seen(shop)
            try:
                self.change(chance, shop)
            except ShaftError:
                failed += 1
                self.assertEqual(before, seen(shop))
                continue
            if len(shop) == before[0] + 1:
                states.append(before)
            else:
                self.assertEqual(states.pop(), seen(shop))
            for wish in shop.wishes:
                self.assertTrue(self.is_so(wish, shop))
        self.assertGreater(failed, 50)
        self.assertGreater(len(states), 100)
        while states:
            shop.undo()
            self.assertEqual(states.pop(), seen(shop))


if __name__ == "__main__":
    unittest.main()
