"""Which shapes kinds lay, by point 20's words, and kinds of all sorts."""

from tests.bar_samples import lean, mate_sign, some_shapes
from tests.lay_samples import number_over, number_times
from tests.samples import FORTY, num, root_fractions


def lays(d, kinds, shape):
    """Every shape by mates of both signs; else by the lean fraction of the kind that leans most."""
    signs = {mate_sign(d, kind) for kind in kinds}
    if len(signs) == 2:
        return True
    if signs != {mate_sign(d, shape)}:
        return False
    if signs == {1}:
        return lean(d, shape) <= max(lean(d, kind) for kind in kinds)
    return lean(d, shape) >= min(lean(d, kind) for kind in kinds)


def contrary_of(d, x):
    return number_over(d, num(1), x)


def kinds_of_one_sign(d):
    """One to three kinds with mates above 0, and with mates below 0."""
    found = [(num(1),), (num(0, 1),), (num(7, 0, 3), num(1)), (num(0, 5, 9), num(0, 1)), (num(1),) * 3]
    for mates in (1, -1):
        a, b, c, e, f, g = some_shapes(d, 20 + d, 6, mates)
        found += [(a,), (b,), (a, b), (c, e), (e, f, g), (a, a), (b, contrary_of(d, b)), (c, c, contrary_of(d, c)),
                  (e, number_times(d, e, num(3, 0, 7))), (f, number_times(d, contrary_of(d, f), num(FORTY))),
                  (num(1) if mates > 0 else num(0, 1), g)]
    return found


def kinds_of_both_signs(d):
    a, b, c = some_shapes(d, 30 + d, 3, 1)
    e, f, g = some_shapes(d, 30 + d, 3, -1)
    return [(a, e), (f, b), (a, b, e), (e, c, f), (g, e, b), (num(1), num(0, 1)), (num(0, 1), num(1), num(1)),
            (num(2, 0, 3), g), (c, num(0, 1, 5)), (contrary_of(d, a), e), (c, contrary_of(d, g), c)]


def kinds_of_forty_figures(d):
    """Kinds of forty figures, with mates far from 0 and very near it, of either sign and of both."""
    (low_p, low_q), (high_p, high_q) = root_fractions(d, 39)
    # The mates of the last two are very near 0, the one above it and the other below.
    near_above, near_below = num(high_p, high_q), num(low_p, low_q)
    great, small = num(FORTY, 3, FORTY - 8), num(FORTY - 7, -1, FORTY)
    steep = num(7, FORTY, FORTY + 2)
    return [(near_above,), (near_below,), (great, small), (steep,), (near_above, near_below), (great, steep),
            (near_above, great, small), (near_below, steep), (near_above, steep, near_below), (small, near_below)]
