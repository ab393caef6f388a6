"""Consoles: what is said to a workshop in words, and what it answers."""

from shaftshakes.errors import InvalidPhrase, NotAWorkshop
from shaftshakes.rationals import is_fraction_from_nought, is_index
from shaftshakes.runs import count_slower
from shaftshakes.shapes import signs_of
from shaftshakes.texts import fraction_of_text, line_of_text, text_of_line, text_of_whole, whole_of_text
from shaftshakes.wishes import is_name
from shaftshakes.workshops import Workshop

DONE = "done"
NONE = "none"


def read_thing(word, text):
    """Return what is told behind a word, a name and a colon; None for what is of no form."""
    if word == "put":
        return line_of_text(text)
    if word == "slower":
        pace = fraction_of_text(text)
        return pace if is_fraction_from_nought(pace) else None
    return whole_of_text(text)


def read_phrase(text):
    """Return (WORD, NAME, THING) of a value, whatever it is; None for what is of no form.

    NAME and THING are None where there are none.
    """
    if not isinstance(text, str):
        return None
    if text in ("undo", "names"):
        return (text, None, None)
    word, _, rest = text.partition(" ")
    if word in ("drop", "show"):
        return (word, rest, None) if is_name(rest) else None
    if word not in ("put", "slower", "signs"):
        return None
    name, _, told = rest.partition(": ")
    thing = read_thing(word, told)
    return (word, name, thing) if is_name(name) and thing is not None else None


def told_names(shop):
    """Return all names of a workshop with blanks between."""
    return " ".join(shop.names) if shop.names else NONE


def told_signs(line, index):
    """Return the signs of a swing with blanks between."""
    if not is_index(index, len(line[0])):
        return NONE
    return " ".join([text_of_whole(sign) for sign in signs_of(line, index)])


def told_of_line(word, line, thing):
    """Return the answer to a word that asks for what is so of a line."""
    if word == "show":
        return text_of_line(line)
    if word == "slower":
        return text_of_whole(count_slower(line, thing))
    return told_signs(line, thing)


class Console:
    """What is said is done to the workshop, or answered from it."""

    def __init__(self, shop):
        if not isinstance(shop, Workshop):
            raise NotAWorkshop(shop)
        self.shop = shop

    def __eq__(self, other):
        return self is other

    def say(self, text):
        """Do or answer what a text says."""
        phrase = read_phrase(text)
        if phrase is None:
            raise InvalidPhrase(text)
        word, name, thing = phrase
        if word == "names":
            return told_names(self.shop)
        if word in ("show", "slower", "signs"):
            return told_of_line(word, self.shop.named(name), thing)
        if word == "put":
            self.shop.put(name, thing)
        elif word == "drop":
            self.shop.drop(name)
        else:
            self.shop.undo()
        return DONE
