"""What is seen of a cloth by a weave."""

from stripelay.errors import NoBox, NoWeave
from stripelay.spots import check_spot, is_spot
from stripelay.stripes import check_shade

# Which thread is on top hangs on rests by this number, by each weave.
RESTS = 4


def plain_warp(x, y):
    """True where by `plain` the warp's thread is on top."""
    return (x + y) % 2 == 0


def twill_warp(x, y):
    """True where by `twill` the warp's thread is on top."""
    return (x + y) % RESTS < 2


def basket_warp(x, y):
    """True where by `basket` the warp's thread is on top."""
    return (x % RESTS < 2) == (y % RESTS < 2)


WEAVES = {"plain": plain_warp, "twill": twill_warp, "basket": basket_warp}


def check_weave(thing):
    """Refuse what, of any kind, is none of the three weaves."""
    if not isinstance(thing, str) or thing not in WEAVES:
        raise NoWeave(thing)


def is_box(thing):
    """True where the thing, of any kind, is (X1, Y1, X2, Y2)."""
    if not isinstance(thing, tuple) or len(thing) != 4:
        return False
    if not all([is_spot(part) for part in thing]):
        return False
    x1, y1, x2, y2 = thing
    return x1 <= x2 and y1 <= y2


def check_box(thing):
    """Refuse what, of any kind, is no box."""
    if not is_box(thing):
        raise NoBox("this is no box")


def top(cloth, x, y, weave="plain"):
    """The shade on top at (X, Y)."""
    check_spot(x)
    check_spot(y)
    check_weave(weave)
    warp_shade, weft_shade = cloth.pair(x, y)
    warp_is_up = WEAVES[weave]
    return warp_shade if warp_is_up(x, y) else weft_shade


def with_rest(rest, size, first, last):
    """How many spots from FIRST to LAST have a rest by a size."""
    return (last - rest) // size - (first - 1 - rest) // size


def many_up(row, first, last, across):
    """For each shade of a row on how many spots it is on top, ACROSS telling for each rest on how many a thread is."""
    threads = row.threads()
    # So many threads further both the row and the rests begin again.
    size = RESTS * len(threads)
    many = {shade: 0 for shade in row.shades()}
    for place in range(size):
        many[threads[place % len(threads)]] += with_rest(place, size, first, last) * across[place % RESTS]
    return many


def many_seen(cloth, box, weave):
    """For each shade of the cloth on how many spots of the box it is on top."""
    x1, y1, x2, y2 = box
    warp_is_up = WEAVES[weave]
    rests = list(range(RESTS))
    warp_across = [sum([with_rest(y, RESTS, y1, y2) for y in rests if warp_is_up(x, y)]) for x in rests]
    weft_across = [sum([with_rest(x, RESTS, x1, x2) for x in rests if not warp_is_up(x, y)]) for y in rests]
    many = many_up(cloth.warp_row(), x1, x2, warp_across)
    of_weft = many_up(cloth.weft_row(), y1, y2, weft_across)
    for shade in of_weft:
        many[shade] = many.get(shade, 0) + of_weft[shade]
    return many


def seen(cloth, shade, box, weave="plain"):
    """How many spots of a box have a shade on top."""
    check_shade(shade)
    check_box(box)
    check_weave(weave)
    return many_seen(cloth, box, weave).get(shade, 0)


def all_seen(cloth, box, weave="plain"):
    """(SHADE, MANY) of all shades that are seen in a box, the most first, of as many by shades."""
    check_box(box)
    check_weave(weave)
    many = many_seen(cloth, box, weave)
    told = [(shade, many[shade]) for shade in many if many[shade] > 0]
    return sorted(told, key=lambda pair: (-pair[1], pair[0]))
