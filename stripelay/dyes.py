"""Rows dyed, and the fewest dyes between two rows."""

from stripelay.rows import row_of_threads
from stripelay.stripes import check_shade


def dye_of(shade, deed):
    """The shade that a deed tells of a shade."""
    dye = deed(shade)
    check_shade(dye)
    return dye


def dyed(row, deed):
    """The row that has in each shade's place the one that the deed tells of it."""
    # Rising, so that of several that are refused it is the least shade's.
    dyes = {shade: dye_of(shade, deed) for shade in row.shades()}
    return row_of_threads(tuple([dyes[shade] for shade in row.threads()]))


def dyes_by(threads, others, move):
    """The dyes that, with a move, make threads told over and over the others, or None where none do."""
    dyes = {}
    for spot, shade in enumerate(threads):
        wanted = others[(spot + move) % len(others)]
        if dyes.setdefault(shade, wanted) != wanted:
            return None
    return tuple([(shade, dyes[shade]) for shade in sorted(dyes) if dyes[shade] != shade])


def fewest_dyes(row, other):
    """(DYES, MOVE) of the fewest dyes, of these of the least move, that make the row alike the other, or None."""
    # Dyed, a row comes again by its own round: the other must do so, too.
    if len(row) % len(other) != 0:
        return None
    best = None
    for move in range(len(other)):
        dyes = dyes_by(row.threads(), other.threads(), move)
        if dyes is not None and (best is None or len(dyes) < len(best[0])):
            best = (dyes, move)
    return best
