"""Two rows side by side."""

from stripelay.rows import told_from
from stripelay.spots import check_spot
from stripelay.stripes import check_shade


def first_unlike(row, other, first=0):
    """The first spot from FIRST on at which the rows have unlike threads, or None."""
    check_spot(first)
    # Rows that agree in as many threads as both rounds together are alike.
    many = len(row) + len(other)
    threads = told_from(row.threads(), first, many)
    others = told_from(other.threads(), first, many)
    for further, (thread, across) in enumerate(zip(threads, others)):
        if thread != across:
            return first + further
    return None


def places_of(row, shade, first):
    """How much further than FIRST a shade lies in the round from there on."""
    threads = told_from(row.threads(), first, len(row))
    return [place for place, thread in enumerate(threads) if thread == shade]


def fewest_rounds(size, other):
    """For each rest by the other round that rounds of a size leave, the fewest rounds that leave it."""
    fewest = {}
    for rounds in range(other):
        fewest.setdefault(rounds * size % other, rounds)
    return fewest


def first_meeting(row, shade, other, second, first=0):
    """The first spot from FIRST on at which the row has SHADE and the other has SECOND, or None."""
    check_shade(shade)
    check_shade(second)
    check_spot(first)
    size = len(other)
    fewest = fewest_rounds(len(row), size)
    others = places_of(other, second, first)
    meetings = []
    for place in places_of(row, shade, first):
        rests = [(across - place) % size for across in others]
        meetings.extend([place + fewest[rest] * len(row) for rest in rests if rest in fewest])
    return first + min(meetings) if len(meetings) > 0 else None
