"""Mirrors of rows, and the tellings of the fewest threads."""

from stripelay.moves import move_between
from stripelay.rows import told_from
from stripelay.stripes import stripes_of


def mirror(row):
    """The least number A from 0 on so that threads at S and A - S are the same for all S, or None."""
    # Turned, the thread at A - S lies at S - A: moved by A it comes to S.
    return move_between(row.turned(), row)


def told_by(row, manner, first, many):
    """The telling by a manner of so many threads, t0 the one at spot FIRST."""
    stripes = stripes_of(told_from(row.threads(), first, many))
    return (stripes, manner, -first % len(row))


def least_telling(row):
    """(STRIPES, MANNER, START) of the fewest threads by which the row is laid, each spot as it is."""
    size = len(row)
    middle = mirror(row)
    if middle is None:
        return told_by(row, "run", 0, size)
    if size % 2 == 1:
        # Mirrors are an odd round apart, so that by turns they are even, at a thread, and odd, between two.
        even = middle if middle % 2 == 0 else middle + size
        return told_by(row, "left", even // 2, (size + 1) // 2)
    if middle % 2 == 0:
        return told_by(row, "pivot", middle // 2, size // 2 + 1)
    return told_by(row, "fold", (middle + 1) // 2, size // 2)
