"""Weighed products of widths and heights.

Weights are a tuple (p, q, s, t) of four numbers.
"""

from matefloors.layings import must_be_laying
from matefloors.numbers import is_number, mate, plus, times


def is_weights(thing):
    """Tell of any thing whether it is a tuple of four numbers."""
    if not isinstance(thing, tuple) or len(thing) != 4:
        return False
    return all([is_number(part) for part in thing])


def weighed(d, weights, width, height):
    """Tell the weighed product of a width and a height."""
    p, q, s, t = weights
    by_width = plus(times(d, p, height), times(d, q, mate(height)))
    by_its_mate = plus(times(d, s, height), times(d, t, mate(height)))
    return plus(times(d, width, by_width), times(d, mate(width), by_its_mate))


def weighed_sums(d, weights, laying):
    """Tell the floor's weighed product, and a list of the tiles', in order; these come to that."""
    must_be_laying(d, laying)
    floor_width, floor_height, tiles = laying
    of_tiles = [weighed(d, weights, width, height) for x, y, width, height in tiles]
    return (weighed(d, weights, floor_width, floor_height), of_tiles)
