"""Moves between rows, and rows put in order."""

from stripelay.rows import begun_at


def move_between(row, other):
    """The least number from 0 on by which the row moved is alike the other, or None."""
    threads = row.threads()
    others = other.threads()
    for by in range(len(others)):
        if begun_at(others, by) == threads:
            return by
    return None


def text_of(row):
    """The key by which rows are put in order where none is told."""
    return str(row)


def ordered(rows, key=None, falling=False):
    """A new list of the rows by a key, rising or falling; of the same keys those ahead stay ahead."""
    deed = text_of if key is None else key
    if falling:
        return sorted(rows, key=lambda row: deed(row), reverse=True)
    return sorted(rows, key=lambda row: deed(row))
