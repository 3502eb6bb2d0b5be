"""Rows of threads without an end."""

from stripelay.errors import NoManner, TooLong
from stripelay.spots import check_spot
from stripelay.stripes import MOST_THREADS, stripe_words, stripes_of, threads_of

MANNERS = ("run", "pivot", "fold", "left", "right")


def is_manner(thing):
    """True where the thing, of any kind, is one of the five manners."""
    return isinstance(thing, str) and thing in MANNERS


def laid_out(threads, manner):
    """What is told over and over when threads are laid by a manner."""
    if manner == "pivot":
        return threads + threads[1:-1][::-1]
    if manner == "fold":
        return threads + threads[::-1]
    if manner == "left":
        return threads + threads[1:][::-1]
    if manner == "right":
        return threads + threads[:-1][::-1]
    return threads


def begun_at(threads, place):
    """Threads told over and over, as many of them from a place on."""
    return threads[place:] + threads[:place]


def told_from(threads, place, many):
    """Threads told over and over, so many of them from a place on, however far it lies."""
    size = len(threads)
    return tuple([threads[(place + further) % size] for further in range(many)])


def least_round(threads):
    """The least beginning that, told over and over, tells the threads told over and over."""
    size = 1
    # Only what divides their number can be a round: long tellings needn't be compared at each size.
    while len(threads) % size != 0 or begun_at(threads, size) != threads:
        size += 1
    return threads[:size]


def short_round(threads):
    """The least round of threads told over and over, refused where it is above 240."""
    one_round = least_round(threads)
    if len(one_round) > MOST_THREADS:
        raise TooLong(len(one_round))
    return one_round


def least_beginning(threads):
    """The least of the tuples of a round, by whichever place it begins."""
    return min([begun_at(threads, place) for place in range(len(threads))])


class Row:
    """A row that goes on for ever both ways; it never changes."""

    def __init__(self, stripes, manner="run", start=0):
        threads = threads_of(stripes)
        if not is_manner(manner):
            raise NoManner("this is no manner")
        check_spot(start)
        one_round = short_round(laid_out(threads, manner))
        # Begun at spot 0 and least: rows are alike just where these tuples are the same.
        self.one_round = begun_at(one_round, start % len(one_round))

    def at(self, spot):
        """The shade at a spot."""
        check_spot(spot)
        return self.one_round[spot % len(self.one_round)]

    def threads(self):
        """The threads at the spots from 0 to one less than the round."""
        return self.one_round

    def shades(self):
        """The shades of the row, rising."""
        return tuple(sorted(set(self.one_round)))

    def moved(self, by):
        """The row that has at S + BY what is at S here."""
        check_spot(by)
        return Row(stripes_of(self.one_round), "run", -by)

    def turned(self):
        """The row that has at 0 less S what is at S here."""
        # Read backwards, the thread at spot 0 comes last: it goes ahead again.
        return Row(stripes_of(self.one_round[::-1]), "run", -1)

    def alike(self, other):
        """True where each spot has the same thread in both rows."""
        return self.one_round == other.one_round

    def __len__(self):
        return len(self.one_round)

    def __eq__(self, other):
        return isinstance(other, Row) and least_beginning(self.one_round) == least_beginning(other.one_round)

    def __str__(self):
        return " ".join(stripe_words(least_beginning(self.one_round)))

    def __repr__(self):
        return f"Row({stripes_of(self.one_round)!r})"


def row_of_threads(threads):
    """The row of threads told over and over, the first at spot 0; there may be more than 240."""
    return Row(stripes_of(short_round(threads)))
