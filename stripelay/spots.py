"""Whole numbers and spots."""

from stripelay.errors import NoNumber, NoSpot

BIG = 10 ** 30


def is_whole(thing):
    """True where the thing is a whole number; truths are none, though Python counts them as ints."""
    return isinstance(thing, int) and not isinstance(thing, bool)


def is_spot(thing):
    """True where the thing is a spot, a number to move by, or a START."""
    return is_whole(thing) and -BIG <= thing <= BIG


def check_spot(thing):
    """Refuse what is no spot."""
    if not is_spot(thing):
        raise NoSpot(thing)


def check_number(thing, least, most):
    """Refuse what is no whole number from the least to the most."""
    if not is_whole(thing) or not least <= thing <= most:
        raise NoNumber("this number can't stand here")
