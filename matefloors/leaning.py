"""How shapes lean: their mates beside themselves."""

from matefloors.numbers import mate, must_be_above_nought, over, plus, times


def leaning(d, shape):
    """Tell the shape's mate over the shape."""
    must_be_above_nought(d, shape)
    return over(d, mate(shape), shape)


def lean_fraction(d, shape):
    """Tell the square of the shape and its mate together, over the product of both: a fraction."""
    must_be_above_nought(d, shape)
    together = plus(shape, mate(shape))
    return over(d, times(d, together, together), times(d, shape, mate(shape)))
