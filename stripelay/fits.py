"""Where pieces lie in rows."""

from stripelay.rows import told_from
from stripelay.spots import BIG, check_number


def fits(row, piece):
    """All spots from 0 to one less than the round at which the piece fits, rising."""
    threads = row.threads()
    wanted = piece.threads()
    return tuple([spot for spot in range(len(row)) if told_from(threads, spot, len(wanted)) == wanted])


def goes_on(row, piece, other, gap=0):
    """The spots of these at which the piece fits, and the other one behind it and GAP threads between."""
    check_number(gap, 0, BIG)
    further = len(piece) + gap
    others = fits(row, other)
    return tuple([spot for spot in fits(row, piece) if (spot + further) % len(row) in others])
