"""Where a plan's tiles lie, by point 13's words, reckoned with pairs of Fractions; nets and streams likewise."""

import random
from fractions import Fraction
from math import isqrt

from tests.plan_samples import made_by_pairs
from tests.samples import number_of, pair_less, pair_of, pair_over, pair_plus, pair_times, root_fractions

ZERO = (Fraction(0), Fraction(0))
UNIT = (Fraction(1), Fraction(0))


def rank(d, x, y):
    """-1, 0, 1 where x is below, like, above y, by the whole number beneath the root's part."""
    a, b, c = number_of(pair_less(pair_of(x), pair_of(y)))
    if b == 0:
        return (a > 0) - (a < 0)
    beneath = isqrt(d * b * b)
    # The root's part lies above that whole number, below the next one, or the other way round below 0.
    return 1 if (a + beneath >= 0 if b > 0 else a > beneath) else -1


def lay(d, shapes, plan):
    """The tiles (x, y, w, h, K, T) of a floor of width 1, of pairs, K and T plain."""
    if plan[0] == "kind":
        return [(ZERO, ZERO, UNIT, shapes[plan[1]], plan[1], False)]
    if plan[0] == "turn":
        tall = made_by_pairs(d, shapes, plan[1])
        # Turned as in point 8, then stretched to the width 1.
        return [grow(d, (pair_less(pair_less(tall, y), h), x, h, w, kind, not over), pair_over(d, UNIT, tall))
                for x, y, w, h, kind, over in lay(d, shapes, plan[1])]
    if plan[0] == "grid":
        return lay_grid(d, shapes, plan)
    total = made_by_pairs(d, shapes, plan)
    tiles, start = [], ZERO
    for part in plan[1]:
        shape = made_by_pairs(d, shapes, part)
        inner = lay(d, shapes, part)
        if plan[0] == "upon":
            tiles += [move(tile, ZERO, start) for tile in inner]
            start = pair_plus(start, shape)
        else:
            wide = pair_over(d, total, shape)
            tiles += [move(grow(d, tile, wide), start, ZERO) for tile in inner]
            start = pair_plus(start, wide)
    return tiles


def lay_grid(d, shapes, plan):
    columns, rows = plan[1], plan[2]
    shape = made_by_pairs(d, shapes, plan[3])
    small = (Fraction(1, columns), Fraction(0))
    inner = [grow(d, tile, small) for tile in lay(d, shapes, plan[3])]
    return [move(tile, (Fraction(column, columns), Fraction(0)), (shape[0] * row / columns, shape[1] * row / columns))
            for row in range(rows) for column in range(columns) for tile in inner]


def grow(d, tile, factor):
    return tuple(pair_times(d, part, factor) for part in tile[:4]) + tile[4:]


def move(tile, right, up):
    return (pair_plus(tile[0], right), pair_plus(tile[1], up)) + tile[2:]


def tiles_by_words(d, kinds, plan):
    """The tiles as `tile_at` tells them, in the plan's order."""
    shapes = [pair_of(kind) for kind in kinds]
    return [tuple(number_of(part) for part in tile[:4]) + tile[4:] for tile in lay(d, shapes, plan)]


def holding(d, tiles, x, y):
    """The tiles that hold the spot, their left and lower sides counted, the others not."""
    found = []
    for tile in tiles:
        if rank(d, tile[0], x) > 0 or rank(d, tile[1], y) > 0:
            continue
        if rank(d, number_plus(tile[0], tile[2]), x) > 0 and rank(d, number_plus(tile[1], tile[3]), y) > 0:
            found.append(tile)
    return found


def number_plus(x, y):
    return number_of(pair_plus(pair_of(x), pair_of(y)))


def number_less(x, y):
    return number_of(pair_less(pair_of(x), pair_of(y)))


def number_times(d, x, y):
    return number_of(pair_times(d, pair_of(x), pair_of(y)))


def number_over(d, x, y):
    return number_of(pair_over(d, pair_of(x), pair_of(y)))


def tiny(d):
    """A number above 0, less than 1 over ten to the thirtieth, that is no fraction."""
    (low_p, low_q), high = root_fractions(d, 31)
    return (-low_p, low_q, 1)


def some_spot(chance, d, tile):
    """A spot in a tile: at its corner, on its left or lower side, in its midst, near its upper right corner."""
    x, y, width, height = tile[:4]
    share = (Fraction(chance.randint(1, 99), 100), Fraction(0))
    end = (1 - Fraction(1, 10 ** 12), Fraction(0))
    return [(x, y), (x, along(d, y, height, share)), (along(d, x, width, share), y),
            (along(d, x, width, share), along(d, y, height, share)),
            (along(d, x, width, end), along(d, y, height, end))]


def along(d, start, size, share):
    return number_of(pair_plus(pair_of(start), pair_times(d, pair_of(size), share)))


# Nets. Streams are told by a system of all streams and heights at once, solved with pairs.

def streams_by_rows(d, net, through):
    """Streams and heights, or None where there are none or several."""
    lines, ties = net
    many = len(ties) + lines
    rows = []
    for line in range(lines):
        row = [ZERO] * (many + 1)
        for at, (lower, upper, shape) in enumerate(ties):
            if line == lower:
                row[at] = pair_plus(row[at], UNIT)
            if line == upper:
                row[at] = pair_less(row[at], UNIT)
        if line in (0, lines - 1):
            row[many] = pair_of(through) if line == 0 else pair_less(ZERO, pair_of(through))
        rows.append(row)
    for at, (lower, upper, shape) in enumerate(ties):
        row = [ZERO] * (many + 1)
        row[at] = pair_of(shape)
        row[len(ties) + lower], row[len(ties) + upper] = UNIT, pair_less(ZERO, UNIT)
        rows.append(row)
    first = [ZERO] * (many + 1)
    first[len(ties)] = UNIT
    found = solve(d, rows + [first], many)
    return found and ([number_of(x) for x in found[:len(ties)]], [number_of(x) for x in found[len(ties):]])


def solve(d, rows, many):
    """The one answer of more rows than unknowns, or None."""
    done = 0
    for column in range(many):
        place = next((at for at in range(done, len(rows)) if rows[at][column] != ZERO), None)
        if place is None:
            return None
        rows[done], rows[place] = rows[place], rows[done]
        rows[done] = [pair_over(d, x, rows[done][column]) for x in rows[done]]
        for at, row in enumerate(rows):
            if at != done and row[column] != ZERO:
                many_times = row[column]
                rows[at] = [pair_less(x, pair_times(d, many_times, y)) if y != ZERO else x
                            for x, y in zip(row, rows[done])]
        done += 1
    return None if any(row[many] != ZERO for row in rows[done:]) else [row[many] for row in rows[:many]]


def some_net(seed, most_lines=13, most_ties=12):
    """A net at random, mostly of no laying, with shapes of both signs."""
    chance = random.Random(seed)
    lines = chance.randint(2, most_lines)
    ties = []
    if chance.random() < 0.8:
        # All lines hang together.
        ties = [(chance.randrange(upper), upper) for upper in range(1, lines)]
    while len(ties) < chance.randint(1, most_ties):
        ties.append(tuple(sorted(chance.sample(range(lines), 2))))
    chance.shuffle(ties)
    return (lines, tuple((lower, upper, some_shape(chance)) for lower, upper in ties))


def some_shape(chance):
    while True:
        a, b, c = chance.randint(-4, 4), chance.randint(-2, 2), chance.randint(1, 3)
        if a or b:
            return number_of((Fraction(a, c), Fraction(b, c)))
