"""How many threads of a shade there are, and where they lie."""

from stripelay.errors import NoCut, NoShade
from stripelay.rows import begun_at
from stripelay.spots import BIG, check_number, check_spot
from stripelay.stripes import check_shade


def check_span(first, last):
    """Refuse spots between which nothing can be counted; LAST None means a round."""
    check_spot(first)
    if last is None:
        return
    check_spot(last)
    if last < first - 1:
        raise NoCut(first, last)


def many_below(threads, shade, spot):
    """How many threads of a shade lie from 0 to one less than a spot; less than 0 for spots below 0."""
    rounds, rest = divmod(spot, len(threads))
    return rounds * threads.count(shade) + threads[:rest].count(shade)


def many_between(row, shade, first, last):
    """How many threads of a shade a row has from FIRST to LAST, or in a round from FIRST on."""
    end = first + len(row) if last is None else last + 1
    threads = row.threads()
    return many_below(threads, shade, end) - many_below(threads, shade, first)


def amount(row, shade, first=0, last=None):
    """How many threads of a shade there are from FIRST to LAST, by default in a round from FIRST on."""
    check_shade(shade)
    check_span(first, last)
    return many_between(row, shade, first, last)


def how_many(row, first=0, last=None, deed=None):
    """How many threads from FIRST to LAST are of shades that the deed tells True of, by default all."""
    check_span(first, last)
    chosen = [shade for shade in row.shades() if deed is None or deed(shade)]
    return sum([many_between(row, shade, first, last) for shade in chosen])


def nth(row, shade, number, first=0):
    """The spot of the NUMBER-th thread of a shade, counted from FIRST on."""
    check_shade(shade)
    if shade not in row.threads():
        raise NoShade(shade)
    check_number(number, 1, BIG)
    check_spot(first)
    threads = begun_at(row.threads(), first % len(row))
    places = [place for place, thread in enumerate(threads) if thread == shade]
    rounds, rest = divmod(number - 1, len(places))
    return first + rounds * len(row) + places[rest]


def in_round(row):
    """For each shade of the row how many threads a round has."""
    threads = row.threads()
    return {shade: threads.count(shade) for shade in row.shades()}
