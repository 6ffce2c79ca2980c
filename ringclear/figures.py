"""Whole numbers from 0 on as they are written in texts, and words of small letters."""

from ringclear.names import LETTERS

FIGURES = "0123456789"
# Python reads and writes only some thousand figures at once, so longer numbers go piece by piece.
WIDTH = 60
PIECE = 10 ** 60


def is_word(text):
    """Whether a text is one small letter or more."""
    return len(text) > 0 and all([sign in LETTERS for sign in text])


def is_number(text):
    """Whether a text is a number in figures, without noughts ahead of another figure."""
    if len(text) < 1 or not all([sign in FIGURES for sign in text]):
        return False
    return text == "0" or text[0] != "0"


def number_of(figures):
    """The number that is written in these figures."""
    filled = "0" * (-len(figures) % WIDTH) + figures
    number = 0
    for start in range(0, len(filled), WIDTH):
        number = number * PIECE + int(filled[start:start + WIDTH])
    return number


def figures_of(number):
    """A whole number from 0 on, in figures."""
    pieces = []
    while number >= PIECE:
        number, piece = divmod(number, PIECE)
        pieces.append(str(piece).zfill(WIDTH))
    pieces.append(str(number))
    return "".join(pieces[::-1])
