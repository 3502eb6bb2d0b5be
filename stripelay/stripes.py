"""Shades, stripes and threads."""

from stripelay.errors import NoShade, NoStripes, NoThreads
from stripelay.spots import is_whole

MOST_THREADS = 240
MOST_LETTERS = 3


def are_letters(thing, most):
    """True where the thing, of any kind, is a text of one to so many small letters."""
    if not isinstance(thing, str) or not 1 <= len(thing) <= most:
        return False
    return all(["a" <= letter <= "z" for letter in thing])


def is_shade(thing):
    """True where the thing, of any kind, is a text of one to three small letters."""
    return are_letters(thing, MOST_LETTERS)


def check_shade(thing):
    """Refuse what, of any kind, is no shade."""
    if not is_shade(thing):
        raise NoShade(thing)


def is_stripe(thing):
    """True where the thing, of any kind, is (SHADE, COUNT)."""
    if not isinstance(thing, tuple) or len(thing) != 2:
        return False
    shade, many = thing
    return is_shade(shade) and is_whole(many) and many >= 1


def first_wrong(stripes):
    """The number of the first stripe of a tuple that can't stand, or None where all can."""
    threads = 0
    for number, stripe in enumerate(stripes):
        if not is_stripe(stripe):
            return number
        threads += stripe[1]
        if threads > MOST_THREADS:
            return number
    return None


def are_stripes(thing):
    """True where the thing, of any kind, is a tuple of stripes of one to 240 threads."""
    return isinstance(thing, tuple) and len(thing) > 0 and first_wrong(thing) is None


def are_threads(thing):
    """True where the thing, of any kind, is a tuple of one to 240 shades."""
    if not isinstance(thing, tuple) or not 1 <= len(thing) <= MOST_THREADS:
        return False
    return all([is_shade(shade) for shade in thing])


def threads_of(stripes):
    """The shades of stripes, COUNT times each."""
    if not isinstance(stripes, tuple) or len(stripes) == 0:
        raise NoStripes(None)
    wrong = first_wrong(stripes)
    if wrong is not None:
        raise NoStripes(wrong)
    return tuple([shade for shade, many in stripes for place in range(many)])


def stripes_of(threads):
    """The fewest stripes of threads: neighbours are of unlike shades."""
    if not are_threads(threads):
        raise NoThreads("these are no threads")
    stripes = []
    for shade in threads:
        if len(stripes) > 0 and stripes[-1][0] == shade:
            stripes[-1] = (shade, stripes[-1][1] + 1)
        else:
            stripes.append((shade, 1))
    return tuple(stripes)


def stripe_words(threads):
    """The words that the stripes of threads are written by."""
    return [f"{shade}{many}" for shade, many in stripes_of(threads)]
