"""Pieces: some threads, one behind the other."""

from stripelay.errors import NoCut, NoThreads, TooLong
from stripelay.rows import told_from
from stripelay.spots import check_spot
from stripelay.stripes import MOST_THREADS, are_threads, stripe_words


class Piece:
    """One to 240 threads; a piece never changes."""

    def __init__(self, threads):
        if not are_threads(threads):
            raise NoThreads("these are no threads")
        self.held = threads

    def threads(self):
        """Its threads."""
        return self.held

    def joined(self, other):
        """The piece that has the other's threads behind its own."""
        threads = self.held + other.held
        if len(threads) > MOST_THREADS:
            raise TooLong(len(threads))
        return Piece(threads)

    def __len__(self):
        return len(self.held)

    def __eq__(self, other):
        return isinstance(other, Piece) and self.held == other.held

    def __str__(self):
        return " ".join(stripe_words(self.held))

    def __repr__(self):
        return f"Piece({self.held!r})"


def cut(row, first, last):
    """The piece of a row's threads from FIRST to LAST."""
    check_spot(first)
    check_spot(last)
    many = last - first + 1
    if not 1 <= many <= MOST_THREADS:
        raise NoCut(first, last)
    return Piece(told_from(row.threads(), first, many))
