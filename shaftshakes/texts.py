"""Texts of whole numbers, fractions and lines, and such texts read.

Python itself writes and reads numbers up to some thousand figures alone, so longer ones are
written and read piece by piece.
"""

from shaftshakes.lines import is_line
from shaftshakes.rationals import is_fraction

FIGURES = "0123456789"
PIECE = 400
PIECE_BOUND = (10 ** 50) ** 8


def text_of_whole(number):
    """Return the text of a whole number."""
    left = abs(number)
    pieces = []
    while left >= PIECE_BOUND:
        left, piece = divmod(left, PIECE_BOUND)
        pieces.append(str(piece).zfill(PIECE))
    pieces.append(("-" if number < 0 else "") + str(left))
    return "".join(pieces[::-1])


def text_of_fraction(fraction):
    """Return the text of a fraction."""
    return text_of_whole(fraction[0]) + "/" + text_of_whole(fraction[1])


def text_of_line(line):
    """Return the text of a line."""
    discs, shafts = line
    words = [text_of_fraction(number) for number in discs] + ["|"]
    return " ".join(words + [text_of_fraction(number) for number in shafts])


def whole_of_text(text):
    """Return the whole number that has the text; None if none has."""
    figures = text[1:] if text.startswith("-") else text
    if not figures or not all([sign in FIGURES for sign in figures]):
        return None
    if figures.startswith("0") and text != "0":
        return None
    size = 0
    for start in range(0, len(figures), PIECE):
        for _ in figures[start:start + PIECE]:
            size *= 10
        size += int(figures[start:start + PIECE])
    return size if text == figures else -size


def fraction_of_text(text):
    """Return the fraction that has the text; None if none has."""
    top, _, bottom = text.partition("/")
    fraction = (whole_of_text(top), whole_of_text(bottom))
    return fraction if is_fraction(fraction) else None


def line_of_text(text):
    """Return the line that has the text; None if none has."""
    words = text.split(" ")
    if "|" not in words:
        return None
    middle = words.index("|")
    discs = tuple([fraction_of_text(word) for word in words[:middle]])
    line = (discs, tuple([fraction_of_text(word) for word in words[middle + 1:]]))
    return line if is_line(line) else None
