"""Rows laid over others, and rows by turns."""

from stripelay.rows import row_of_threads, told_from
from stripelay.stripes import check_shade


def both_rounds(row, other):
    """Pairs of the rows' threads from spot 0 on, until both begin again."""
    many = len(row)
    while many % len(other) != 0:
        many += len(row)
    return list(zip(told_from(row.threads(), 0, many), told_from(other.threads(), 0, many)))


def laid(row, other, clear):
    """The row laid over the other one, whose threads are seen where its own are of the shade CLEAR."""
    check_shade(clear)
    return row_of_threads(tuple([below if above == clear else above for above, below in both_rounds(row, other)]))


def by_turns(row, other):
    """The row's thread S at spot S times 2, and the other's at the spot behind."""
    return row_of_threads(tuple([thread for pair in both_rounds(row, other) for thread in pair]))
