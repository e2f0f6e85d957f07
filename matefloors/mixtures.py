"""What one kind alone lays: sums of fractions of the kind and of its contrary."""

from matefloors.numbers import NOUGHT, ONE, contrary, less, mate, must_be_above_nought, number, over, plus, sign_of
from matefloors.numbers import times


def mixture_of(d, kind, shape):
    """Tell the mixture of the kind and its contrary that is the shape, or a bar."""
    must_be_above_nought(d, kind)
    must_be_above_nought(d, shape)
    if times(d, kind, kind)[1] == 0:
        # The contrary is then a fraction of the kind, so the kind alone does it.
        shares = (over(d, shape, kind), NOUGHT)
    else:
        shares = shares_of(d, kind, contrary(d, kind), shape)
    if all([is_share(d, share) for share in shares]):
        return ("mixture", shares[0], shares[1])
    return ("bar", bar_for(d, kind, shape))


def shares_of(d, first, second, shape):
    """Tell the fractions by which two numbers, none a fraction times the other, come to the shape."""
    whole = over(d, shape, first)
    part = over(d, second, first)
    # Of the shape over the first the root stands in the second's share alone.
    of_second = number(whole[1] * part[2], 0, whole[2] * part[1])
    of_first = less(whole, times(d, of_second, part))
    return (of_first, of_second)


def is_share(d, x):
    """Tell whether a number is a fraction not below 0."""
    return x[1] == 0 and sign_of(d, x) >= 0


def bar_for(d, kind, shape):
    """Tell a bar for a kind and a shape that it doesn't lay, of the width 1.

    It is one for every kind, too, whose mate has the same sign and that leans no more.
    """
    way = sign_of(d, mate(kind))
    if sign_of(d, mate(shape)) != way:
        return (ONE, (NOUGHT, NOUGHT, NOUGHT, (way, 0, 1)))
    # With q for the second weight, -q or q for the third one, and p and t for the others, no tile is below 0 where
    # p times t is the square of the kind's skew over 4 times the kind times its mate. Of all such p and t the floor
    # takes those by which its skew outweighs both together: half of it goes to t, and less than half to p.
    own = skew(kind, way)
    floor = skew(shape, way)
    turn = sign_of(d, floor)
    last = over(d, times(d, (turn, 0, 2), floor), mate(shape))
    both = over(d, times(d, own, own), times(d, (4, 0, 1), times(d, kind, mate(kind))))
    return (ONE, (over(d, both, last), (way * turn, 0, 1), (-turn, 0, 1), last))


def skew(shape, way):
    """Tell by how much a shape is above its mate, or above its mate's contrary sign where the way is -1."""
    return less(shape, mate(shape)) if way > 0 else plus(shape, mate(shape))


def plan_of_mixture(u, v, place):
    """Tell the plan of so much of the kind at the place and so much of it turned."""
    kind = ("kind", place)
    return plan_of_shares(u, kind, v, ("turn", kind))


def plan_of_shares(u, first, v, second):
    """Tell the plan of fractions of two plans' shapes, the first one's below the second one's."""
    if v == NOUGHT:
        return share_plan(u, first)
    if u == NOUGHT:
        return share_plan(v, second)
    return ("upon", (share_plan(u, first), share_plan(v, second)))


def share_plan(share, plan):
    """Tell the plan of a fraction above 0 of a plan's shape: so many rows of so many columns."""
    if share == ONE:
        return plan
    return ("grid", share[2], share[0], plan)
