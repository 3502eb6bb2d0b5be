"""Cloths of two rows."""

from stripelay.errors import NoWay

# Whether warp and weft change places, then whether the warp is turned, and the weft.
WAYS = {
    "stay": (False, False, False),
    "mirror": (False, True, False),
    "flip": (False, False, True),
    "half": (False, True, True),
    "swap": (True, False, False),
    "right": (True, True, False),
    "left": (True, False, True),
    "cross": (True, True, True),
}


def check_way(thing):
    """Refuse what, of any kind, is none of the eight ways."""
    if not isinstance(thing, str) or thing not in WAYS:
        raise NoWay(thing)


class Cloth:
    """A cloth of a warp and a weft; it never changes."""

    def __init__(self, warp, weft):
        self.warp = warp
        self.weft = weft

    def warp_row(self):
        """Its warp."""
        return self.warp

    def weft_row(self):
        """Its weft."""
        return self.weft

    def pair(self, x, y):
        """The warp's thread at X and the weft's at Y."""
        return (self.warp.at(x), self.weft.at(y))

    def turned(self, way):
        """The cloth turned by one of the eight ways."""
        check_way(way)
        swapped, warp_turned, weft_turned = WAYS[way]
        warp, weft = (self.weft, self.warp) if swapped else (self.warp, self.weft)
        return Cloth(warp.turned() if warp_turned else warp, weft.turned() if weft_turned else weft)

    def __eq__(self, other):
        return isinstance(other, Cloth) and self.warp == other.warp and self.weft == other.weft

    def __str__(self):
        return f"warp {self.warp}\nweft {self.weft}"

    def __repr__(self):
        return f"Cloth({self.warp!r}, {self.weft!r})"
