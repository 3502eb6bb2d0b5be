"""Rows taken each so many threads."""

from stripelay.errors import NoStep
from stripelay.rows import row_of_threads
from stripelay.spots import is_spot


def check_step(thing):
    """Refuse what, of any kind, is no step."""
    if not is_spot(thing) or thing == 0:
        raise NoStep(thing)


def stepped(threads, step):
    """Threads told over and over, each STEP-th of them, as many as there are."""
    size = len(threads)
    return tuple([threads[spot * step % size] for spot in range(size)])


def each(row, step):
    """The row that has at S what is at S times STEP here."""
    check_step(step)
    return row_of_threads(stepped(row.threads(), step))


def step_back(row, step):
    """The least number from 1 to the round by which what was taken by STEP gives back the row, or None."""
    check_step(step)
    threads = row.threads()
    taken = stepped(threads, step)
    for number in range(1, len(threads) + 1):
        if stepped(taken, number) == threads:
            return number
    return None
