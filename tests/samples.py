"""What the tests share: numbers reckoned otherwise than the program does it, and layings of many forms.

Here a number p + q times the root of d is a pair (p, q) of Fractions; order is told by Decimals of many figures.
"""

import random
from decimal import Context, Decimal
from fractions import Fraction
from math import gcd, lcm

ROOTS = [2, 3, 5, 6, 7, 8, 10, 11, 12, 13, 14, 15, 17, 18, 19, 20, 21, 22, 23, 24, 26, 27, 28, 29, 30]

FORTY = 1234567890123456789012345678901234567890
TWO_HUNDRED = FORTY ** 5 + 7
TWO_THOUSAND = FORTY ** 50 + 9

NO_NUMBERS = [
    None, True, False, 0, 1, -1, 2, FORTY, "", "1", "(1, 0, 1)", [], (), [1, 0, 1], [(1, 0, 1)],
    (1,), (1, 0), (1, 0, 1, 0), (1, 0, 1, 0, 1), ((1, 0, 1),), ((1, 0, 1), (1, 0, 1), (1, 0, 1)),
    (True, 0, 1), (1, False, 1), (1, 0, True), (0, 0, True), (1, 1, False), ("1", 0, 1), (1, "0", 1), (1, 0, "1"),
    (None, 0, 1), (1, None, 1), (1, 0, None), ([1], 0, 1), (1, [0], 1), (1, 0, [1]), ((1,), 0, 1), (1, 0, (1,)),
    (1, (0, 0, 1), 1), (1, 0, 0), (0, 0, 0), (1, 1, 0), (1, 0, -1), (1, 1, -2), (0, 0, -1), (0, 0, 2), (0, 0, 7),
    (2, 0, 2), (2, 4, 6), (-3, 9, 3), (0, 5, 5), (FORTY, FORTY, FORTY), (5 * FORTY, 5, 10), "x" * 1200,
    tuple([1] * 2000), [[[]]], (((((), ()), ()), ()), ()),
]


def num(a, b=0, c=1):
    """The number (a + b times the root) over c, in lowest terms."""
    if c < 0:
        a, b, c = -a, -b, -c
    shared = gcd(a, b, c)
    return (a // shared, b // shared, c // shared)


def pair_of(x):
    return (Fraction(x[0], x[2]), Fraction(x[1], x[2]))


def number_of(pair):
    p, q = pair
    c = lcm(p.denominator, q.denominator)
    return (int(p * c), int(q * c), c)


def pair_plus(x, y):
    return (x[0] + y[0], x[1] + y[1])


def pair_less(x, y):
    return (x[0] - y[0], x[1] - y[1])


def pair_times(d, x, y):
    return (x[0] * y[0] + d * x[1] * y[1], x[0] * y[1] + x[1] * y[0])


def pair_over(d, x, y):
    norm = y[0] ** 2 - d * y[1] ** 2
    return pair_times(d, x, (y[0] / norm, -y[1] / norm))


def pair_mate(x):
    return (x[0], -x[1])


def near(d, x, figures=900):
    """The number as a Decimal, right to about so many figures of its parts."""
    context = Context(prec=figures, Emax=10 ** 6, Emin=-10 ** 6)
    root = context.multiply(Decimal(x[1]), context.sqrt(Decimal(d)))
    return context.divide(context.add(Decimal(x[0]), root), Decimal(x[2]))


def sign(d, x, figures=900):
    if x[0] == 0 and x[1] == 0:
        return 0
    return 1 if near(d, x, figures) > 0 else -1


def order(d, x, y):
    """-1, 0, 1 where x is below, like, above y."""
    return sign(d, number_of(pair_less(pair_of(x), pair_of(y))))


def root_fractions(d, figures):
    """Two fractions p over q, q of at least so many figures, very near the root: one below it, one above it."""
    whole = int(d ** 0.5)
    rest, part, step = 0, 1, whole
    old_p, p, old_q, q = 1, whole, 0, 1
    found = {}
    while len(found) < 2:
        rest = step * part - rest
        part = (d - rest * rest) // part
        step = (whole + rest) // part
        old_p, p = p, step * p + old_p
        old_q, q = q, step * q + old_q
        if q >= 10 ** (figures - 1):
            found[p * p > d * q * q] = (p, q)
    return found[False], found[True]


def some_numbers(seed, many):
    """Numbers of all signs, with small and with large parts, some of them mates and contraries of one another."""
    chance = random.Random(seed)
    found = [num(0), num(1), num(-1), num(0, 1), num(0, -1), num(1, 1), num(1, -1), num(-1, 1), num(1, 0, 2),
             num(0, 1, 3), num(7, -5, 3), num(7, 5, 3), num(-7, 5, 3), num(FORTY, -FORTY + 1, 11)]
    while len(found) < many:
        most = chance.choice([3, 12, 1000, 10 ** 6, 10 ** 40])
        found.append(num(chance.randint(-most, most), chance.randint(-most, most), chance.randint(1, most)))
    return found


# Layings. A box is (x, y, width, height), of pairs.

def laying_of(width, height, boxes):
    return (number_of(width), number_of(height), tuple(tuple(number_of(part) for part in box) for box in boxes))


def floor_of(width, height, *tiles):
    """A laying of which each number is a whole number, a Fraction, or a tuple (a, b, c)."""
    return (plain(width), plain(height), tuple(tuple(plain(part) for part in tile) for tile in tiles))


def plain(part):
    return part if isinstance(part, tuple) else num(Fraction(part).numerator, 0, Fraction(part).denominator)


def beside(d, box, share):
    x, y, width, height = box
    cut = pair_times(d, width, share)
    return [(x, y, cut, height), (pair_plus(x, cut), y, pair_less(width, cut), height)]


def upon(d, box, share):
    x, y, width, height = box
    cut = pair_times(d, height, share)
    return [(x, y, width, cut), (x, pair_plus(y, cut), width, pair_less(height, cut))]


def around(d, box, share):
    """Four tiles around a middle one: no cut goes through."""
    left, rest = beside(d, box, share)
    middle, right = beside(d, rest, share)
    lower, rest = upon(d, box, share)
    between, upper = upon(d, rest, share)
    x1, x2 = middle[0], right[0]
    y1, y2 = between[1], upper[1]
    return [
        (box[0], box[1], pair_plus(left[2], middle[2]), lower[3]),
        (x2, box[1], right[2], pair_plus(lower[3], between[3])),
        (x1, y2, pair_plus(middle[2], right[2]), upper[3]),
        (box[0], y1, left[2], pair_plus(between[3], upper[3])),
        (x1, y1, middle[2], between[3]),
    ]


def shares(d):
    """Shares of a side, between 0 and 1, some with a root."""
    whole = int(d ** 0.5)
    half, third = Fraction(1, 2), Fraction(1, 3)
    return [(half, Fraction(0)), (third, Fraction(0)), (Fraction(-whole), Fraction(1)),
            (Fraction(whole + 1), Fraction(-1)), (Fraction(0), Fraction(1, 7))]


def some_boxes(d, seed, many):
    """A floor's width and height, and so many boxes that cover it, cut at random and in any order."""
    chance = random.Random(seed)
    sides = [(Fraction(1), Fraction(0)), (Fraction(5, 2), Fraction(0)), (Fraction(0), Fraction(1)),
             (Fraction(2), Fraction(1, 3)), (Fraction(8), Fraction(-1))]
    width, height = chance.choice(sides), chance.choice(sides)
    nought = (Fraction(0), Fraction(0))
    boxes = [(nought, nought, width, height)]
    while len(boxes) < many:
        box = boxes.pop(chance.randrange(len(boxes)))
        cut = chance.choice([beside, upon, around]) if len(boxes) + 5 <= many else chance.choice([beside, upon])
        boxes += cut(d, box, chance.choice(shares(d)))
    chance.shuffle(boxes)
    return width, height, boxes


def some_laying(d, seed, many):
    return laying_of(*some_boxes(d, seed, many))


PINWHEEL = floor_of(3, 3, (0, 0, 2, 1), (2, 0, 1, 2), (1, 2, 2, 1), (0, 1, 1, 2), (1, 1, 1, 1))

ROOT_PINWHEEL = (num(3, 1), num(4), (
    (num(0), num(0), num(1, 1), num(1)), (num(1, 1), num(0), num(2), num(3, 0, 2)),
    (num(1), num(3, 0, 2), num(2, 1), num(5, 0, 2)), (num(0), num(1), num(1), num(3)),
    (num(1), num(1), num(0, 1), num(1, 0, 2))))

SIXTY = floor_of(10, 6, *[(x, y, 1, 1) for y in range(6) for x in range(10)])

# What is no laying, what is no tuple of kinds.

NO_LAYINGS = NO_NUMBERS + [
    (1, 0, 1), num(0, 1), (num(1), num(2)), list(PINWHEEL), (PINWHEEL,), PINWHEEL[:2], PINWHEEL + (num(1),),
    (PINWHEEL[0], PINWHEEL[1], list(PINWHEEL[2])), (PINWHEEL[0], PINWHEEL[1], PINWHEEL[2][1:]),
    (PINWHEEL[0], PINWHEEL[1], PINWHEEL[2] + PINWHEEL[2][:1]), (PINWHEEL[0], PINWHEEL[1], ()),
    floor_of(1, 1, (0, 0, 1, 2)), floor_of(61, 1, *[(x, 0, 1, 1) for x in range(61)]),
    (PINWHEEL[0], PINWHEEL[1], [list(tile) for tile in PINWHEEL[2]]),
]
RIGHT_KINDS = [((1, 0, 1),), ((1, 0, 1), (1, 0, 1), (1, 0, 1))]
NO_KINDS = [thing for thing in NO_NUMBERS if thing not in RIGHT_KINDS] + [
    (1, 0, 1), num(0, 1), [num(1)], [num(1), num(2)], (num(0),), (num(-1),), (num(1, -1),), (num(-2, 1),),
    (num(1), num(0)), (num(1), num(2), num(-1)), (num(1), num(0), num(2)), (num(1),) * 4, (num(1),) * 5,
    (num(1), num(2), num(3), num(4)), (num(1),) * 2000, (num(1), None), (None, num(1)), (num(1), num(2), True),
    ((2, 0, 2),), (num(1), (0, 0, 2)), ([1, 0, 1],), (num(1), [2, 0, 1]), ("1",), (num(1), "a"), ((num(1),),),
    PINWHEEL,
]

# Of every root from 2 to 30: numbers that are not above 0.
NOT_ABOVE = [num(0), num(-1), num(0, -1), num(1, -1), num(-1, 0, FORTY), num(5, -5, 3), num(-7, -5, 3)]
