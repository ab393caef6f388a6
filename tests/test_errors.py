"""The classes of errors: their attributes and what they stand under."""

import unittest

from shaftshakes import errors

WITH_GIVEN = """InvalidFraction InvalidPolynomial InvalidPoint InvalidLot InvalidPace InvalidLine InvalidDisc
    InvalidShaft InvalidIndex InvalidNumber InvalidBox InvalidSign InvalidSlot InvalidAmount InvalidShape
    InvalidMachine InvalidEngine InvalidOrder InvalidName InvalidWish InvalidPhrase NotAWorkshop UnknownName
    Same Unlike""".split()
WITH_INDEX = "InvalidReadings InvalidStock InUse Broken".split()
BARE = "Nought TooManyDiscs NothingToUndo".split()


class Errors(unittest.TestCase):
    def test_each_keeps_what_it_is_made_with(self):
        thing = object()
        for names, attribute in ((WITH_GIVEN, "given"), (WITH_INDEX, "index")):
            for name in names:
                with self.subTest(name=name):
                    kind = getattr(errors, name)
                    for value in (thing, None, 3, "text", [1], {"a": 2}, (), kind):
                        self.assertIs(getattr(kind(value), attribute), value)
                        self.assertIs(getattr(kind(**{attribute: value}), attribute), value)
                    self.assertEqual([attribute], list(vars(kind(thing))))
                    self.assertRaises(TypeError, kind)
                    self.assertRaises(TypeError, kind, 1, 2)

    def test_those_without_attributes(self):
        for name in BARE + ["ShaftError"]:
            with self.subTest(name=name):
                self.assertEqual({}, vars(getattr(errors, name)()))

    def test_each_stands_under_the_one_base_alone(self):
        self.assertEqual((ValueError,), errors.ShaftError.__bases__)
        for name in WITH_GIVEN + WITH_INDEX + BARE:
            with self.subTest(name=name):
                kind = getattr(errors, name)
                self.assertEqual((errors.ShaftError,), kind.__bases__)
                self.assertEqual([kind, errors.ShaftError, ValueError, Exception, BaseException, object],
                                 list(kind.__mro__))

    def test_there_are_no_other_ones(self):
        kinds = {name for name, kind in vars(errors).items() if isinstance(kind, type)}
        self.assertEqual(set(WITH_GIVEN + WITH_INDEX + BARE + ["ShaftError"]), kinds)

    def test_each_is_defined_in_its_file(self):
        for name in WITH_GIVEN + WITH_INDEX + BARE + ["ShaftError"]:
            self.assertEqual("shaftshakes.errors", getattr(errors, name).__module__)

    def test_they_can_be_raised_and_caught(self):
        for name in WITH_GIVEN + WITH_INDEX:
            kind = getattr(errors, name)
            for base in (kind, errors.ShaftError, ValueError):
                with self.assertRaises(base):
                    raise kind((1, 2))


if __name__ == "__main__":
    unittest.main()
