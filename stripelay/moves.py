"""Moves between rows, and rows put in order."""

from stripelay.rows import begun_at


def move_between(row, other):
    """The least number from 0 on by which the row moved is alike the other, or None."""
    threads = row.threads()
    others = other.threads()
    for by in range(len(others)):
        if begun_at(others, by) == threads:
            return by
    return None


def text_of(row):
    """The key by which rows are put in order where none is told."""
    return str(row)


def sorted_by(things, deed, falling):
    """A new list of things by what a deed tells of them; where it tells the same those ahead stay ahead."""
    if falling:
        return sorted(things, key=lambda thing: deed(thing), reverse=True)
    return sorted(things, key=lambda thing: deed(thing))


def ordered(rows, key=None, falling=False):
    """A new list of the rows by a key, rising or falling; of the same keys those ahead stay ahead."""
    return sorted_by(rows, text_of if key is None else key, falling)
