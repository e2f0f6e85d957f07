"""Layings: floors that are covered by tiles, none upon another one.

A laying is a tuple (width, height, tiles), a tile a tuple (x, y, width, height).
"""

from matefloors.errors import NoKinds, NoLaying, NoNumber
from matefloors.numbers import NOUGHT, contrary, is_above, is_above_nought, is_number, over, plus, sign_of

MOST_TILES = 60
MOST_KINDS = 3


def is_tile(d, thing):
    """Tell of any thing whether it is a tile, wherever it lies."""
    if not isinstance(thing, tuple) or len(thing) != 4:
        return False
    x, y, width, height = thing
    if not is_number(x) or not is_number(y) or sign_of(d, x) < 0 or sign_of(d, y) < 0:
        return False
    return is_above_nought(d, width) and is_above_nought(d, height)


def has_form(d, thing):
    """Tell of any thing whether it is a floor with tiles, however they lie."""
    if not isinstance(thing, tuple) or len(thing) != 3:
        return False
    width, height, tiles = thing
    if not is_above_nought(d, width) or not is_above_nought(d, height):
        return False
    if not isinstance(tiles, tuple) or len(tiles) < 1 or len(tiles) > MOST_TILES:
        return False
    return all([is_tile(d, tile) for tile in tiles])


def bounds_of(tile):
    """Tell a tile's left, right, lower and upper bound."""
    x, y, width, height = tile
    return (x, plus(x, width), y, plus(y, height))


def place_among(d, marks, x):
    """Tell how many of the rising marks are below x."""
    low = 0
    high = len(marks)
    while low < high:
        middle = (low + high) // 2
        if is_above(d, x, marks[middle]):
            low = middle + 1
        else:
            high = middle
    return low


def rising_marks(d, found):
    """Tell the numbers that are found, from the least one up, each once."""
    marks = []
    for x in found:
        place = place_among(d, marks, x)
        if place == len(marks) or marks[place] != x:
            marks.insert(place, x)
    return marks


def reaches_just(marks, end):
    """Tell whether the rising marks go from nought to the end, and no further."""
    return marks[0] == NOUGHT and marks[-1] == end


def covers_once(bounds, across, upward):
    """Tell whether each cell between marks beside one another, across and upward, is in just one tile."""
    columns = {x: at for at, x in enumerate(across)}
    rows = {y: at for at, y in enumerate(upward)}
    covered = set()
    for left, right, bottom, top in bounds:
        for column in range(columns[left], columns[right]):
            for row in range(rows[bottom], rows[top]):
                if (column, row) in covered:
                    return False
                covered.add((column, row))
    return len(covered) == (len(across) - 1) * (len(upward) - 1)


def is_laying(d, thing):
    """Tell of any thing whether it is a laying."""
    if not has_form(d, thing):
        return False
    width, height, tiles = thing
    bounds = [bounds_of(tile) for tile in tiles]
    # Between marks beside one another no tile begins or ends, so a cell there is in a tile wholly or not at all.
    across = rising_marks(d, [x for left, right, bottom, top in bounds for x in (left, right)])
    upward = rising_marks(d, [y for left, right, bottom, top in bounds for y in (bottom, top)])
    return reaches_just(across, width) and reaches_just(upward, height) and covers_once(bounds, across, upward)


def is_kinds(d, thing):
    """Tell of any thing whether it is a tuple of kinds: one to three numbers above 0."""
    if not isinstance(thing, tuple) or len(thing) < 1 or len(thing) > MOST_KINDS:
        return False
    return all([is_above_nought(d, kind) for kind in thing])


def must_be_laying(d, thing):
    """Refuse what is no laying."""
    if not is_laying(d, thing):
        raise NoLaying("this is no laying")


def must_be_kinds(d, thing):
    """Refuse what is no tuple of kinds."""
    if not is_kinds(d, thing):
        raise NoKinds("this is no tuple of one to three numbers above 0")


def shapes_in(d, laying):
    """Tell the tiles' shapes, height over width, in order."""
    must_be_laying(d, laying)
    return [over(d, height, width) for x, y, width, height in laying[2]]


def is_by(d, laying, kinds):
    """Tell whether each tile is of one of the kinds, upright or turned."""
    shapes = shapes_in(d, laying)
    must_be_kinds(d, kinds)
    fitting = list(kinds) + [contrary(d, kind) for kind in kinds]
    return all([shape in fitting for shape in shapes])


def holds_spot(d, tile, x, y):
    """Tell whether the spot is in the tile, its sides counted."""
    left, right, bottom, top = bounds_of(tile)
    beyond = is_above(d, left, x) or is_above(d, x, right) or is_above(d, bottom, y) or is_above(d, y, top)
    return not beyond


def tiles_at(d, laying, x, y):
    """Tell the places of all tiles that hold the spot (x, y), rising."""
    must_be_laying(d, laying)
    if not is_number(x) or not is_number(y):
        raise NoNumber("a spot is two numbers")
    return [place for place, tile in enumerate(laying[2]) if holds_spot(d, tile, x, y)]
