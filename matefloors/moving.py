"""Layings turned, mirrored, stretched, and put into a tile of another one."""

from matefloors.errors import NoFit, NoTile, TooMany
from matefloors.layings import MOST_TILES, must_be_laying
from matefloors.numbers import is_whole, less, must_be_above_nought, over, plus, times


def turned(d, laying):
    """Tell the laying turned by a quarter."""
    must_be_laying(d, laying)
    width, height, tiles = laying
    return (height, width, tuple([turned_tile(height, tile) for tile in tiles]))


def turned_tile(floor_height, tile):
    """Tell the tile turned by a quarter along with its floor."""
    x, y, width, height = tile
    return (less(less(floor_height, y), height), x, height, width)


def mirrored(d, laying):
    """Tell the laying with left and right changed for one another."""
    must_be_laying(d, laying)
    width, height, tiles = laying
    return (width, height, tuple([mirrored_tile(width, tile) for tile in tiles]))


def mirrored_tile(floor_width, tile):
    """Tell the tile mirrored along with its floor."""
    x, y, width, height = tile
    return (less(less(floor_width, x), width), y, width, height)


def stretched(d, laying, factor):
    """Tell the laying with all its numbers times the factor."""
    must_be_laying(d, laying)
    must_be_above_nought(d, factor)
    width, height, tiles = laying
    return (times(d, width, factor), times(d, height, factor), stretched_tiles(d, tiles, factor))


def stretched_tiles(d, tiles, factor):
    """Tell the tiles with all their numbers times the factor."""
    return tuple([tuple([times(d, part, factor) for part in tile]) for tile in tiles])


def shifted(tile, right, up):
    """Tell the tile moved by so much to the right and so much up."""
    x, y, width, height = tile
    return (plus(x, right), plus(y, up), width, height)


def is_place(thing, many):
    """Tell of any thing whether it is a place among so many, from 0."""
    return is_whole(thing) and 0 <= thing and thing < many


def put_in(d, laying, place, other):
    """Tell the laying with the other one, stretched, in the place of one of its tiles."""
    must_be_laying(d, laying)
    must_be_laying(d, other)
    tiles = laying[2]
    if not is_place(place, len(tiles)):
        raise NoTile("no tile has this place")
    x, y, width, height = tiles[place]
    if over(d, height, width) != over(d, other[1], other[0]):
        raise NoFit("the tile and the other laying are of unlike shapes")
    if len(tiles) - 1 + len(other[2]) > MOST_TILES:
        raise TooMany("there would be more than sixty tiles")
    smaller = stretched_tiles(d, other[2], over(d, width, other[0]))
    inner = tuple([shifted(tile, x, y) for tile in smaller])
    return (laying[0], laying[1], tiles[:place] + inner + tiles[place + 1:])
