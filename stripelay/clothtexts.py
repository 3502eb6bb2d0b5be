"""Cloths read from texts and written."""

from stripelay.cloths import Cloth
from stripelay.errors import NoText
from stripelay.rowtexts import row_of_words, show_row

FIRST_WORDS = ("warp", "weft")


def row_of_line(lines, line):
    """The row that one of the lines tells behind its first word."""
    if line >= len(lines):
        raise NoText(line, None)
    words = lines[line].split(" ")
    if words[0] != FIRST_WORDS[line]:
        raise NoText(line, None)
    return row_of_words(words[1:], line)


def read_cloth(text):
    """The cloth that a text of two lines tells."""
    if not isinstance(text, str):
        raise NoText(0, None)
    lines = text.split("\n")
    warp = row_of_line(lines, 0)
    weft = row_of_line(lines, 1)
    if len(lines) > 2:
        raise NoText(2, None)
    return Cloth(warp, weft)


def show_cloth(cloth):
    """The two rows of a cloth, written in a line each."""
    return f"warp {show_row(cloth.warp_row())}\nweft {show_row(cloth.weft_row())}"
