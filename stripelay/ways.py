"""The ways that turn a cloth, one behind another and between two cloths."""

from stripelay.cloths import WAYS, check_way


def behind(way, other):
    """The way that is WAY and then OTHER."""
    check_way(way)
    check_way(other)
    swapped, warp_turned, weft_turned = WAYS[way]
    swaps, turns_warp, turns_weft = WAYS[other]
    if swaps:
        warp_turned, weft_turned = weft_turned, warp_turned
    # What is changed twice, be it places or a row turned, is as it was.
    wanted = (swapped != swaps, warp_turned != turns_warp, weft_turned != turns_weft)
    return [word for word in WAYS if WAYS[word] == wanted][0]


def ways_between(cloth, other):
    """All ways, in their order, by which the cloth turned is one with the other."""
    return tuple([way for way in WAYS if cloth.turned(way) == other])
