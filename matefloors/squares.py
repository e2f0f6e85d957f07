"""Floors laid with squares, the greatest one taken away again and again."""

from matefloors.errors import NoFit, TooMany
from matefloors.layings import MOST_TILES
from matefloors.numbers import NOUGHT, ONE, is_above, less, must_be_above_nought, over, plus


def squares_of(d, width, height):
    """Tell how many squares go at each step, or a bar where height over width is no fraction."""
    must_be_above_nought(d, width)
    must_be_above_nought(d, height)
    shape = over(d, height, width)
    if shape[1] != 0:
        return ("bar", bar_for_squares(shape))
    return ("squares", counts_of(shape))


def bar_for_squares(shape):
    """Tell a bar for the kind 1 and a shape that is no fraction."""
    # Of width w and height h the weighed product is w h' - w' h, or its contrary sign: 0 for squares, and for the
    # width 1 the difference of the shape and its mate.
    skew = 1 if shape[1] > 0 else -1
    return (ONE, (NOUGHT, (skew, 0, 1), (-skew, 0, 1), NOUGHT))


def counts_of(shape):
    """Tell how many squares go at each step from a floor whose shape is a fraction."""
    short = min(shape[0], shape[2])
    rest = max(shape[0], shape[2])
    counts = []
    while short != 0:
        counts.append(rest // short)
        rest, short = short, rest % short
    return counts


def squares_laid(d, width, height):
    """Tell the laying by the squares, in the order in which they are taken away."""
    word, counts = squares_of(d, width, height)
    if word == "bar":
        raise NoFit("height over width is no fraction")
    if sum(counts) > MOST_TILES:
        raise TooMany("there would be more than sixty squares")
    return (width, height, tuple(tiles_by_counts(d, width, height, counts)))


def tiles_by_counts(d, width, height, counts):
    """Tell the squares of each step, from the left or from below."""
    x = NOUGHT
    y = NOUGHT
    beside = not is_above(d, height, width)
    tiles = []
    for many in counts:
        side = height if beside else width
        for square in range(many):
            tiles.append((x, y, side, side))
            if beside:
                x = plus(x, side)
                width = less(width, side)
            else:
                y = plus(y, side)
                height = less(height, side)
        # Less than a square is left beside or above, so the next ones go the other way.
        beside = not beside
    return tiles
