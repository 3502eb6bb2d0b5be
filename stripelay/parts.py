"""Rows seen in part."""

from stripelay.rows import least_round, row_of_threads
from stripelay.spots import check_number
from stripelay.stripes import MOST_THREADS


def shows_round(threads, size):
    """True where threads can be of a row with a round of this size."""
    if threads[size:] != threads[:len(threads) - size]:
        return False
    return len(least_round(threads[:size])) == size


def can_be(piece, most=None):
    """All rows with a round of at most MOST that show the piece from spot 0 on, by rising rounds."""
    threads = piece.threads()
    if most is None:
        most = len(threads)
    check_number(most, 1, len(threads))
    return [row_of_threads(threads[:size]) for size in range(1, most + 1) if shows_round(threads, size)]


def longest_agreement(threads, by):
    """The most neighbours, of threads told over and over, that agree with those so many further."""
    size = len(threads)
    longest = 0
    going = 0
    # Twice over, as neighbours may begin ahead of the round's end and go on behind it.
    for place in range(2 * size):
        going = going + 1 if threads[place % size] == threads[(place + by) % size] else 0
        longest = max(longest, going)
    return longest


def longest_mistaken(threads, by, most):
    """The most threads of a row that show another one, whose round has the rest BY by the row's own."""
    # How many threads agree with those further hangs on the rest alone, so the greatest such round shows the most.
    greatest = most - (most - by) % len(threads)
    return greatest + longest_agreement(threads, by)


def enough(row, most):
    """The least number of threads, no less than MOST, of which each piece leaves this row alone."""
    check_number(most, len(row), MOST_THREADS)
    threads = row.threads()
    return max([most] + [longest_mistaken(threads, by, most) + 1 for by in range(1, len(row))])
