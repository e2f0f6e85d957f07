"""Nets: the level lines of layings, tied by the tiles between them.

A net is a tuple (lines, ties), a tie a tuple (lower line, upper line, shape).
"""

from matefloors.errors import NoNet
from matefloors.layings import MOST_TILES, bounds_of, must_be_laying, rising_marks
from matefloors.numbers import NOUGHT, is_above, is_number, is_whole, mate, over

LEAST_LINES = 2
MOST_LINES = 61


def net_of(d, laying):
    """Tell the net of a laying's level lines."""
    must_be_laying(d, laying)
    bounds = [bounds_of(tile) for tile in laying[2]]
    lines = level_lines(d, bounds)
    ties = []
    for (x, y, width, height), (left, right, bottom, top) in zip(laying[2], bounds):
        lower = line_at(d, lines, left, bottom)
        upper = line_at(d, lines, left, top)
        ties.append((lower, upper, over(d, height, width)))
    return (len(lines), tuple(ties))


def level_lines(d, bounds):
    """Tell the level lines as tuples (height, left end, right end), by height, then from the left."""
    by_height = {}
    for left, right, bottom, top in bounds:
        for height in (bottom, top):
            by_height[height] = joined(d, by_height.get(height, []), left, right)
    lines = []
    for height in rising_marks(d, list(by_height)):
        ends = {left: right for left, right in by_height[height]}
        for left in rising_marks(d, list(ends)):
            lines.append((height, left, ends[left]))
    return lines


def joined(d, stretches, left, right):
    """Tell stretches apart from one another with one more among them, joined with those with which it shares a spot."""
    apart = []
    for start, end in stretches:
        if is_above(d, start, right) or is_above(d, left, end):
            apart.append((start, end))
        else:
            left = start if is_above(d, left, start) else left
            right = end if is_above(d, end, right) else right
    apart.append((left, right))
    return apart


def line_at(d, lines, x, y):
    """Tell the number of the level line that holds the spot."""
    level = [at for at, line in enumerate(lines) if line[0] == y]
    found = [at for at in level if not is_above(d, lines[at][1], x) and not is_above(d, x, lines[at][2])]
    return found[0]


def is_net(thing):
    """Tell of any thing whether it is a net."""
    if not isinstance(thing, tuple) or len(thing) != 2:
        return False
    lines, ties = thing
    if not is_whole(lines) or lines < LEAST_LINES or lines > MOST_LINES:
        return False
    if not isinstance(ties, tuple) or len(ties) < 1 or len(ties) > MOST_TILES:
        return False
    return all([is_tie(tie, lines) for tie in ties])


def is_tie(thing, lines):
    """Tell of any thing whether it is a tie between two of so many lines."""
    if not isinstance(thing, tuple) or len(thing) != 3:
        return False
    lower, upper, shape = thing
    if not is_whole(lower) or not is_whole(upper) or not is_number(shape):
        return False
    return 0 <= lower and lower < upper and upper < lines and shape != NOUGHT


def must_be_net(thing):
    """Refuse what is no net."""
    if not is_net(thing):
        raise NoNet("this is no net")


def mate_net(net):
    """Tell the net with the mates of its shapes."""
    must_be_net(net)
    lines, ties = net
    return (lines, tuple([(lower, upper, mate(shape)) for lower, upper, shape in ties]))
