"""Wishes: of kinds and a shape a plan by which a floor of that shape is laid, or a bar."""

from matefloors.layings import must_be_kinds
from matefloors.leaning import lean_fraction
from matefloors.mixtures import mixture_of, plan_of_mixture, plan_of_shares, shares_of
from matefloors.numbers import contrary, mate, must_be_above_nought, sign_of


def wish_told(d, kinds, shape):
    """Tell a plan whose shape that is by the kinds, or a bar for the kinds and the shape."""
    must_be_kinds(d, kinds)
    must_be_above_nought(d, shape)
    place = leans_most(d, kinds)
    if place is None:
        return ("plan", plan_by_both(d, kinds, shape))
    told = mixture_of(d, kinds[place], shape)
    if told[0] == "bar":
        # The other kinds lean no more, so it bars them as well.
        return told
    return ("plan", plan_of_mixture(told[1], told[2], place))


def is_laid(d, kinds, shape):
    """Tell whether a floor of the shape is laid by the kinds."""
    return wish_told(d, kinds, shape)[0] == "plan"


def leans_most(d, kinds):
    """Tell the place of the first kind that leans most, or None where mates are of both signs."""
    must_be_kinds(d, kinds)
    signs = mate_signs(d, kinds)
    if 1 in signs and -1 in signs:
        return None
    most = 0
    for place in range(1, len(kinds)):
        if leans_more(d, kinds[place], kinds[most]):
            most = place
    return most


def mate_signs(d, kinds):
    """Tell the signs of the kinds' mates, in order."""
    return [sign_of(d, mate(kind)) for kind in kinds]


def leans_more(d, kind, other):
    """Tell whether a kind leans more than another one whose mate has the same sign."""
    # Lean fractions of one sign: the greatest one above 0, the least one below 0, is the farthest from 0.
    a, b, c = lean_fraction(d, kind)
    other_a, other_b, other_c = lean_fraction(d, other)
    return abs(a) * other_c > abs(other_a) * c


def plan_by_both(d, kinds, shape):
    """Tell a plan of the shape by kinds with mates of both signs."""
    signs = mate_signs(d, kinds)
    # Of a shape and its contrary one has a leaning from -1 to 1. It is a sum of fractions of two others, one of a
    # leaning from 1 on and one of a leaning down from -1, since such a sum has any leaning between theirs.
    first, first_plan = with_greater_mate(d, kinds, signs.index(1))
    second, second_plan = with_greater_mate(d, kinds, signs.index(-1))
    is_contrary = has_greater_mate(shape)
    u, v = shares_of(d, first, second, contrary(d, shape) if is_contrary else shape)
    plan = plan_of_shares(u, first_plan, v, second_plan)
    return ("turn", plan) if is_contrary else plan


def with_greater_mate(d, kinds, place):
    """Tell the kind or its contrary, the one whose mate is as far from 0 as itself or farther, and its plan."""
    kind = kinds[place]
    plan = ("kind", place)
    if has_greater_mate(contrary(d, kind)):
        return (contrary(d, kind), ("turn", plan))
    return (kind, plan)


def has_greater_mate(shape):
    """Tell whether the mate of a shape, a number above 0, is farther from 0 than the shape itself."""
    # The two parts, a and the root's, then have contrary signs, so that they take from one another but in the mate.
    return shape[0] * shape[1] < 0
