"""Plans of all sorts, and what they make, reckoned otherwise than the program does it."""

import random
from fractions import Fraction

from tests.samples import FORTY, number_of, pair_of, pair_over, pair_plus

UNIT = (Fraction(1), Fraction(0))
A, B, C = ("kind", 0), ("kind", 1), ("kind", 2)
SORTS = [
    A, ("turn", A), ("upon", (A, A)), ("beside", (A, A)), ("grid", 1, 1, A), ("grid", 3, 2, A),
    ("upon", (A, ("turn", A), A)), ("beside", (("grid", 2, 5, A), A)), ("turn", ("upon", (A,) * 8)),
    ("grid", FORTY, 10 ** 59 + 7, ("turn", ("beside", (A, A)))),
]


def made_by_pairs(d, shapes, plan):
    """What a plan makes of shapes, pairs of Fractions: sums of shapes, or of widths where they stand beside."""
    if plan[0] == "kind":
        return shapes[plan[1]]
    if plan[0] == "turn":
        return pair_over(d, UNIT, made_by_pairs(d, shapes, plan[1]))
    if plan[0] == "grid":
        inner = made_by_pairs(d, shapes, plan[3])
        return (inner[0] * plan[2] / plan[1], inner[1] * plan[2] / plan[1])
    total = (Fraction(0), Fraction(0))
    for part in plan[1]:
        inner = made_by_pairs(d, shapes, part)
        total = pair_plus(total, inner if plan[0] == "upon" else pair_over(d, UNIT, inner))
    return total if plan[0] == "upon" else pair_over(d, UNIT, total)


def shape_by_pairs(d, kinds, plan):
    return number_of(made_by_pairs(d, [pair_of(kind) for kind in kinds], plan))


def tiles_by_sums(plan):
    if plan[0] == "kind":
        return 1
    if plan[0] == "turn":
        return tiles_by_sums(plan[1])
    if plan[0] == "grid":
        return plan[1] * plan[2] * tiles_by_sums(plan[3])
    return sum(tiles_by_sums(part) for part in plan[1])


def inner_plans(plan):
    if plan[0] == "kind":
        return ()
    return plan[1] if plan[0] in ("upon", "beside") else (plan[-1],)


def size_of(plan):
    """How many plans in all, how many within one another."""
    inner = [size_of(part) for part in inner_plans(plan)]
    return 1 + sum(many for many, depth in inner), 1 + max([depth for many, depth in inner], default=0)


def plan_of(many, kind=A):
    """A plan of so many plans in all, few of them within one another."""
    if many == 1:
        return kind
    if many == 2:
        return ("turn", kind)
    if many <= 9:
        return ("upon" if many % 2 else "beside", (kind,) * (many - 1))
    shares = [(many - 1 + at) // 8 for at in range(8)]
    return ("beside" if many % 2 else "upon", tuple(plan_of(share, kind) for share in shares))


def chain_of(depth, sort, kind=A):
    """So many plans within one another, of one sort; what stands beside the inner one is a kind."""
    plan = kind
    for at in range(depth - 1):
        plan = {"turn": ("turn", plan), "grid": ("grid", 2, 3, plan), "upon": ("upon", (kind, plan)),
                "beside": ("beside", (plan, kind))}[sort]
    return plan


def some_plan(seed, many, most=60, deepest=12):
    """A plan at random for so many kinds, within the bounds told."""
    chance = random.Random(seed)
    while True:
        plan = grown(chance, many, chance.randint(1, deepest))
        if size_of(plan)[0] <= most:
            return plan


def grown(chance, many, depth):
    if depth == 1 or chance.random() < 0.1:
        return ("kind", chance.randrange(many))
    sort = chance.choice(["turn", "upon", "beside", "grid", "grid", "upon", "beside"])
    if sort == "turn":
        return ("turn", grown(chance, many, depth - 1))
    if sort == "grid":
        return ("grid", chance.randint(1, 4), chance.randint(1, 4), grown(chance, many, depth - 1))
    # One part may go deep, the others stay shallow, so that plans of many within one another are not too many in all.
    parts = [grown(chance, many, depth - 1)]
    parts += [grown(chance, many, min(depth - 1, 2)) for at in range(chance.randint(1, 4))]
    chance.shuffle(parts)
    return (sort, tuple(parts))


def all_paths(thing):
    """The way to every place within tuples."""
    yield ()
    if isinstance(thing, tuple):
        for at, part in enumerate(thing):
            for path in all_paths(part):
                yield (at,) + path


def at_path(thing, path):
    for at in path:
        thing = thing[at]
    return thing


def put_at(thing, path, other):
    """The same thing with another one at a place."""
    if not path:
        return other
    at = path[0]
    return thing[:at] + (put_at(thing[at], path[1:], other),) + thing[at + 1:]
