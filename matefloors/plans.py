"""Plans: kinds, turned, upon and beside one another and in grids.

A plan is ("kind", K), ("turn", PLAN), ("upon", PLANS), ("beside", PLANS) or ("grid", U, V, PLAN).
"""

from matefloors.errors import NoPlan
from matefloors.layings import MOST_KINDS, must_be_kinds
from matefloors.numbers import NOUGHT, contrary, is_whole, mate, number, plus, times

MOST_WITHIN = 12
MOST_PLANS = 60
LEAST_PARTS = 2
MOST_PARTS = 8


def is_plan(thing, many):
    """Tell of any thing whether it is a plan for so many kinds."""
    waiting = [(thing, 1)]
    counted = 0
    while waiting:
        plan, depth = waiting.pop()
        counted += 1
        # Counted while it goes, since a plan that stands in many places may be without measure in all.
        if counted > MOST_PLANS or depth > MOST_WITHIN or not has_form(plan, many):
            return False
        for part in parts_of(plan):
            waiting.append((part, depth + 1))
    return True


def has_form(thing, many):
    """Tell of any thing whether it is a plan, whatever stands in its plans' places."""
    if not isinstance(thing, tuple) or len(thing) < 2:
        return False
    word = thing[0]
    if word == "grid":
        return len(thing) == 4 and is_count(thing[1]) and is_count(thing[2])
    if len(thing) != 2:
        return False
    if word == "kind":
        return is_whole(thing[1]) and thing[1] >= 0 and thing[1] < many
    if word == "upon" or word == "beside":
        return isinstance(thing[1], tuple) and len(thing[1]) >= LEAST_PARTS and len(thing[1]) <= MOST_PARTS
    return word == "turn"


def is_count(thing):
    """Tell of any thing whether it is a whole number from 1 on."""
    return is_whole(thing) and thing >= 1


def parts_of(plan):
    """Tell the plans that a plan is made of, in order."""
    word = plan[0]
    if word == "kind":
        return []
    if word == "upon" or word == "beside":
        return list(plan[1])
    return [plan[-1]]


def must_be_plan(thing, many):
    """Refuse what is no plan for so many kinds."""
    if not is_plan(thing, many):
        raise NoPlan("this is no plan for so many kinds")


def shape_of(d, kinds, plan):
    """Tell the plan's shape by the kinds."""
    must_be_kinds(d, kinds)
    must_be_plan(plan, len(kinds))
    return made_of(d, kinds, plan)


def mate_shape(d, kinds, plan):
    """Tell what the plan's sums and contraries make of the kinds' mates."""
    must_be_kinds(d, kinds)
    must_be_plan(plan, len(kinds))
    return made_of(d, [mate(kind) for kind in kinds], plan)


def made_of(d, shapes, plan):
    """Tell what the plan's sums and contraries make of the shapes."""
    word = plan[0]
    if word == "kind":
        return shapes[plan[1]]
    inner = [made_of(d, shapes, part) for part in parts_of(plan)]
    if word == "turn":
        return contrary(d, inner[0])
    if word == "grid":
        return times(d, inner[0], number(plan[2], 0, plan[1]))
    if word == "upon":
        return sum_of(inner)
    return contrary(d, sum_of([contrary(d, shape) for shape in inner]))


def sum_of(shapes):
    """Tell the sum of all."""
    total = NOUGHT
    for shape in shapes:
        total = plus(total, shape)
    return total


def count_of(plan):
    """Tell how many tiles the plan has."""
    must_be_plan(plan, MOST_KINDS)
    return tiles_in(plan)


def tiles_in(plan):
    """Tell how many tiles what is surely a plan has."""
    word = plan[0]
    if word == "kind":
        return 1
    inner = sum([tiles_in(part) for part in parts_of(plan)])
    return plan[1] * plan[2] * inner if word == "grid" else inner
