"""Bars: by which a floor of a shape can't be laid by kinds, however it is cut.

A bar is a tuple (width, weights), the weights as in weighing.
"""

from matefloors.layings import must_be_kinds
from matefloors.numbers import contrary, is_above, is_above_nought, mate, must_be_above_nought, plus, sign_of, times
from matefloors.weighing import is_weights, weighed


def never_below(d, weights, kind):
    """Tell whether no upright tile of the kind has a weighed product below 0."""
    p, q, s, t = weights
    # Of width w and height kind times w the weighed product is A w w + B w w' + C w' w', w' being w's mate.
    first = times(d, p, kind)
    last = times(d, t, mate(kind))
    if sign_of(d, first) < 0 or sign_of(d, last) < 0:
        return False
    middle = plus(times(d, q, mate(kind)), times(d, s, kind))
    most = times(d, (4, 0, 1), times(d, first, last))
    return not is_above(d, times(d, middle, middle), most)


def is_bar(d, kinds, shape, thing):
    """Tell of any thing whether it is a bar for the kinds and the shape."""
    must_be_kinds(d, kinds)
    must_be_above_nought(d, shape)
    if not isinstance(thing, tuple) or len(thing) != 2:
        return False
    width, weights = thing
    if not is_above_nought(d, width) or not is_weights(weights):
        return False
    for kind in kinds:
        if not never_below(d, weights, kind) or not never_below(d, weights, contrary(d, kind)):
            return False
    return sign_of(d, weighed(d, weights, width, times(d, shape, width))) < 0
