"""Workshops: lines under names, and wishes about them that hold after each change."""

from shaftshakes.errors import Broken, InUse, InvalidIndex, InvalidName, InvalidWish, NothingToUndo, UnknownName
from shaftshakes.lines import check_line
from shaftshakes.rationals import is_index
from shaftshakes.wishes import does_hold, is_name, is_wish, names_in


class Trial:
    """What a `with` statement over a workshop takes: it keeps how the workshop was at its beginning."""

    def __init__(self, shop):
        self.shop = shop
        self.state = None
        self.past = []

    def __enter__(self):
        shop = self.shop
        self.state = shop.state
        self.past = list(shop.past)
        return shop

    def __exit__(self, kind, value, trace):
        shop = self.shop
        if kind is not None:
            shop.state = self.state
            shop.past = self.past


class Workshop:
    """Lines under names, with wishes that always hold.

    state is (LINES, WISHES), a dict and a tuple that are not changed but replaced; past is the
    list of the states ahead of the changes that can be taken back.
    """

    def __init__(self):
        self.state = ({}, ())
        self.past = []

    def __eq__(self, other):
        return self is other

    def __bool__(self):
        return True

    def __len__(self):
        return len(self.past)

    def __contains__(self, name):
        return is_name(name) and name in self.state[0]

    @property
    def names(self):
        """The ascending tuple of all names."""
        return tuple(sorted(self.state[0]))

    @property
    def wishes(self):
        """The tuple of all wishes, as they were passed."""
        return self.state[1]

    def put(self, name, line):
        """Put a line under a name, or another one in its place."""
        if not is_name(name):
            raise InvalidName(name)
        check_line(line)
        lines, wishes = self.state
        lines = dict(lines)
        lines[name] = line
        for index, wish in enumerate(wishes):
            if name in names_in(wish) and not does_hold(wish, lines):
                raise Broken(index)
        change(self, lines, wishes)

    def drop(self, name):
        """Take a line and its name away."""
        check_known(self, name)
        lines, wishes = self.state
        for index, wish in enumerate(wishes):
            if name in names_in(wish):
                raise InUse(index)
        change(self, {other: lines[other] for other in lines if other != name}, wishes)

    def wish(self, wish):
        """Wish for something that is to hold from now on."""
        if not is_wish(wish):
            raise InvalidWish(wish)
        for name in names_in(wish):
            check_known(self, name)
        lines, wishes = self.state
        if not does_hold(wish, lines):
            raise Broken(len(wishes))
        change(self, lines, wishes + (wish,))

    def lift(self, index):
        """Take a wish away."""
        lines, wishes = self.state
        if not is_index(index, len(wishes)):
            raise InvalidIndex(index)
        change(self, lines, wishes[:index] + wishes[index + 1:])

    def named(self, name):
        """Return the line under a name."""
        check_known(self, name)
        return self.state[0][name]

    def undo(self):
        """Take back the last change that is not taken back yet."""
        if not self.past:
            raise NothingToUndo()
        self.state = self.past.pop()

    def trial(self):
        """Return what a `with` statement takes: it leaves the workshop as it was if its block fails."""
        return Trial(self)

    def tried(self, action):
        """Call a function with the workshop in a trial, and return what it returns."""
        with self.trial() as shop:
            return action(shop)


def check_known(shop, given):
    """Raise UnknownName for what is no name in the workshop."""
    if given not in shop:
        raise UnknownName(given)


def change(shop, lines, wishes):
    """Give a workshop another state, which can be taken back."""
    shop.past.append(shop.state)
    shop.state = (lines, wishes)
