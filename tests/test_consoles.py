"""Consoles: what they are said, what they answer, and what they do not understand."""

import random
import unittest
from fractions import Fraction
from unittest import mock

from chance import random_line, random_number, told
from odd import Odd
from shaftshakes.consoles import Console
from shaftshakes.errors import Broken, InUse, InvalidPhrase, NothingToUndo, NotAWorkshop, ShaftError, UnknownName
from shaftshakes.lines import slower_count
from shaftshakes.machines import line_alike
from shaftshakes.shapes import signs_of
from shaftshakes.workshops import Workshop

ONE, NONE = (1, 1), (0, 1)
TWO = ((ONE, ONE), (NONE, ONE, NONE))
THREE = ((ONE, ONE, ONE), (NONE, ONE, ONE, NONE))
TOLD = "1/1 1/1 1/1 | 0/1 1/1 1/1 0/1"


def text(line):
    """The text of a line, by the tests' own means."""
    discs, shafts = (" ".join(f"{top}/{bottom}" for top, bottom in row) for row in line)
    return f"{discs} | {shafts}"


def state(shop):
    return len(shop), shop.names, [shop.named(name) for name in shop.names], shop.wishes


class Check(unittest.TestCase):
    def setUp(self):
        self.shop = Workshop()
        self.console = Console(self.shop)
        self.shop.put("shaft", THREE)
        self.shop.put("b", TWO)

    def says(self, told, phrase):
        self.assertEqual(told, self.console.say(phrase))

    def fails(self, error, phrase, **attributes):
        before = state(self.shop)
        with self.assertRaises(ShaftError) as caught:
            self.console.say(phrase)
        self.assertIs(error, type(caught.exception))
        self.assertEqual(attributes, vars(caught.exception))
        self.assertEqual(before, state(self.shop))

    def not_understood(self, phrase):
        before = state(self.shop)
        with self.assertRaises(InvalidPhrase) as caught:
            self.console.say(phrase)
        self.assertIs(phrase, caught.exception.given)
        self.assertEqual(before, state(self.shop))


class Made(unittest.TestCase):
    def test_of_a_workshop(self):
        shop = Workshop()
        for console in (Console(shop), Console(shop=shop)):
            self.assertEqual("none", console.say("names"))
            self.assertEqual("none", console.say(text="names"))

    def test_of_nothing_else(self):
        for value in (None, 0, "shop", Workshop, Console(Workshop()), {}, Odd(), ()):
            for make in (lambda: Console(value), lambda: Console(shop=value)):
                with self.assertRaises(NotAWorkshop) as caught:
                    make()
                self.assertIs(value, caught.exception.given)

    def test_equal_to_itself_alone(self):
        shop = Workshop()
        console = Console(shop)
        self.assertEqual([True, False, True], [console == console, console == Console(shop), bool(console)])
        for value in (shop, None, Odd(), mock.ANY):
            self.assertEqual([False, True], [console == value, console != value])

    def test_two_of_one_workshop(self):
        shop = Workshop()
        Console(shop).say("put a: " + TOLD)
        self.assertEqual(["a", THREE, 1], [Console(shop).say("names"), shop.named("a"), len(shop)])


class Said(Check):
    def test_put_and_show(self):
        self.says("done", "put a: 1/2 | 0/1 3/1")
        self.assertEqual((((1, 2),), (NONE, (3, 1))), self.shop.named("a"))
        self.says("1/2 | 0/1 3/1", "show a")
        self.says("done", "put a: " + TOLD)
        self.says(TOLD, "show a")
        self.assertEqual(4, len(self.shop))

    def test_drop_undo_and_names(self):
        self.says("b shaft", "names")
        self.says("done", "drop shaft")
        self.says("b", "names")
        self.says("done", "undo")
        self.says("b shaft", "names")
        for _ in range(2):
            self.says("done", "undo")
        self.says("none", "names")
        self.fails(NothingToUndo, "undo")

    def test_slower(self):
        for pace, told in (("0/1", "0"), ("1/2", "1"), ("1/1", "1"), ("2/1", "2"), ("3/1", "2"), ("4/1", "3")):
            self.says(told, "slower shaft: " + pace)

    def test_signs(self):
        for index, told in (("0", "1 1 1"), ("1", "1 0 -1"), ("2", "1 -1 1"), ("3", "none"), ("-1", "none"),
                            ("8", "none"), ("1" + "0" * 3000, "none"), ("-3" + "7" * 3000, "none")):
            self.says(told, "signs shaft: " + index)
        self.says("none", "signs b: 2")

    def test_names_that_are_there_and_not(self):
        for phrase in ("drop c", "show c", "slower c: 1/1", "signs c: 0", "signs c: -1"):
            self.fails(UnknownName, phrase, given="c")

    def test_wishes_hold(self):
        self.shop.wish(("rests", "shaft", 1, 1))
        self.shop.wish(("alike", "b", "b"))
        self.fails(Broken, "put shaft: 1/1 | 0/1 0/1", index=0)
        self.fails(InUse, "drop b", index=1)
        self.says("done", "put b: 1/1 | 0/1 0/1")

    def test_by_chance(self):
        chance = random.Random(1501)
        for _ in range(60):
            line = random_line(chance)
            self.says("done", "put any: " + text(line))
            self.assertEqual(line, self.shop.named("any"))
            self.says(text(line), "show any")
            pace, index = random_number(chance, 9), chance.randrange(len(line[0]))
            self.says(str(slower_count(line, pace)), f"slower any: {pace[0]}/{pace[1]}")
            self.says(" ".join(map(str, signs_of(line, index))), f"signs any: {index}")


class Numbers(Check):
    def test_long_ones(self):
        for size in (399, 400, 401, 800, 1200, 4000):
            top = int("7" * size)
            line = (((top, 10 ** (size - 1)),), (NONE, (10 ** size, 3)))
            self.says("done", "put a: " + text(line))
            self.assertEqual(line, self.shop.named("a"))
            self.says(text(line), "show a")

    def test_longer_than_python_itself_writes(self):
        # A line alike of a machine with long numbers has longer ones; what is shown can be put again.
        chance = random.Random(1502)
        long = [(chance.randrange(10 ** 399, 10 ** 400), chance.randrange(10 ** 399, 10 ** 400)) for _ in range(12)]
        long = [told(Fraction(*pair)) for pair in long]
        machine = ((long[0], NONE), (long[1], NONE, 0, long[2], long[3]), (long[4], NONE, 0, long[5], ONE))
        line = line_alike(machine)
        self.assertGreater(max(max(abs(top), bottom) for row in line for top, bottom in row), 10 ** 4400)
        self.shop.put("a", line)
        shown = self.console.say("show a")
        self.says("done", "put c: " + shown)
        self.assertEqual(line, self.shop.named("c"))
        self.says(shown, "show c")
        self.assertTrue(all(sign in "0123456789/| " for sign in shown))

    def test_noughts_within(self):
        line = (((10 ** 1200, 1),), (NONE, (10 ** 400 + 1, 10 ** 399 + 7)))
        self.says("done", "put a: " + text(line))
        self.assertEqual(line, self.shop.named("a"))
        self.says(text(line), "show a")


class NotUnderstood(Check):
    def test_no_strings(self):
        for phrase in (None, 0, ("undo",), ["undo"], b"undo", True, Odd(), {}, Workshop(), self.console):
            self.not_understood(phrase)

    def test_words(self):
        for phrase in ("", " ", "undo ", " undo", "Undo", "undo shaft", "undo: shaft", "UNDO", "names ", "names shaft", "name",
                       "redo", "done", "none", "drop", "drop ", "show", "put", "slower", "signs", "shaft", "wish shaft",
                       "undo undo", "|", ":", "put:", "drop: shaft", "show: shaft", "drop shaft:", "show shaft: ",
                       "droshaft", "dropshaft", "show  shaft", "show shaft b", " show shaft", "show shaft ", "lift 0"):
            self.not_understood(phrase)

    def test_names(self):
        for name in ("", "Shaft", "shaft1", "a b", "abcdefghijklm", "a:", ":", "-", "a_b"):
            for phrase in (f"drop {name}", f"show {name}", f"slower {name}: 1/1", f"signs {name}: 1", f"put {name}: {TOLD}"):
                self.not_understood(phrase)

    def test_numbers(self):
        for number in ("", " ", "+1", "01", "-0", "00", "1.0", "1/1", "1 ", " 1", "1e3", "1_000", "x", "--1", "-", "0x1", "1,0"):
            self.not_understood("signs shaft: " + number)
            self.not_understood("signs unknown: " + number)

    def test_paces(self):
        for pace in ("", "1", "2/2", "0/2", "1/0", "0/0", "-1/1", "1/-1", "-1/-1", "+1/1", "1/+1", "01/1", "1/01", "1 /1",
                     "1/ 1", " 1/1", "1/1 ", "1/1/1", "/1", "1/", "/", "1.0/1", "-0/1", "4/2", "1/1 1/1", "1:1", "1//1"):
            self.not_understood("slower shaft: " + pace)
            self.not_understood("slower unknown: " + pace)

    def test_signs_between(self):
        for phrase in ("slower shaft 1/1", "slower shaft:1/1", "slower shaft : 1/1", "slower shaft:  1/1", "slower  shaft: 1/1",
                       "slower: 1/1", "slower shaft: : 1/1", "signs shaft 1", "signs shaft:1", "signs shaft: 1 ",
                       "put shaft " + TOLD, "put shaft:" + TOLD, "put shaft:  " + TOLD, "put  shaft: " + TOLD,
                       "put shaft: " + TOLD + " ", " put shaft: " + TOLD, "put shaft: shaft: " + TOLD):
            self.not_understood(phrase)

    def test_lines(self):
        for line in ("", "|", " | ", "1/1 |", "| 0/1", "1/1 | 0/1", "1/1 | 0/1 0/1 0/1", "1/1 1/1 | 0/1 0/1 0/1", "0/1 | 0/1 0/1",
                     "-1/1 | 0/1 0/1", "1/1 | -1/1 0/1", "1/1 | 0/1 -1/1", "2/2 | 0/1 0/1", "1/1 | 0/2 0/1", "1 | 0/1 0/1",
                     "1/1 | 0 0", "1/1  | 0/1 0/1", "1/1 |  0/1 0/1", "1/1 | 0/1  0/1", "1/1| 0/1 0/1", "1/1 |0/1 0/1",
                     "1/1 0/1 0/1", "1/1 | 0/1 | 0/1", "1/1 | 0/1 0/1 |", "| 1/1 | 0/1 0/1", "1/1, 1/1 | 0/1 1/1 0/1",
                     "1/1 || 0/1 0/1", "+1/1 | 0/1 0/1", " ".join(["1/1"] * 9) + " | " + " ".join(["1/1"] * 10),
                     "((1, 1),) | 0/1 0/1", "1/1 | 0/1 0/1 1/1"):
            self.not_understood("put shaft: " + line)
            self.not_understood("put fresh: " + line)

    def test_a_form_is_asked_for_first(self):
        self.not_understood("slower unknown: 2/2")
        self.shop.wish(("rests", "shaft", 1, 1))
        self.not_understood("put shaft: 1/1 | 0/1")
        self.not_understood("drop Shaft")


if __name__ == "__main__":
    unittest.main()
