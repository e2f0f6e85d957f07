"""Bars reckoned otherwise than the program does it, and bars made by hand."""

import random
from fractions import Fraction

from tests.samples import num, number_of, pair_less, pair_mate, pair_of, pair_over, pair_plus, pair_times, sign

ZERO = (Fraction(0), Fraction(0))
UNIT = (Fraction(1), Fraction(0))


def sign_at(d, x):
    """The sign of a number, by as many figures as it takes: 1 over the sum of both parts is the least above 0."""
    return sign(d, x, 20 + 3 * max(len(str(part)) for part in x))


def is_never_below(d, weights, kind):
    """Point 10's first sentence, reckoned with pairs."""
    p, q, s, t = [pair_of(weight) for weight in weights]
    k = pair_of(kind)
    a = pair_times(d, p, k)
    c = pair_times(d, t, pair_mate(k))
    b = pair_plus(pair_times(d, q, pair_mate(k)), pair_times(d, s, k))
    if sign_at(d, number_of(a)) < 0 or sign_at(d, number_of(c)) < 0:
        return False
    four = (Fraction(4), Fraction(0))
    return sign_at(d, number_of(pair_less(pair_times(d, b, b), pair_times(d, four, pair_times(d, a, c))))) <= 0


def is_right_bar(d, kinds, shape, bar):
    """Whether a width and four weights are a bar, reckoned with pairs."""
    width, weights = bar
    contraries = [number_of(pair_over(d, UNIT, pair_of(kind))) for kind in kinds]
    if sign_at(d, width) <= 0 or not all(is_never_below(d, weights, kind) for kind in list(kinds) + contraries):
        return False
    w = pair_of(width)
    h = pair_times(d, pair_of(shape), w)
    total = ZERO
    for weight, first, second in zip(weights, (w, w, pair_mate(w), pair_mate(w)), (h, pair_mate(h)) * 2):
        total = pair_plus(total, pair_times(d, pair_of(weight), pair_times(d, first, second)))
    return sign_at(d, number_of(total)) < 0


def lean(d, shape):
    """The lean fraction of a shape, a Fraction: 4 a a over (a a - d b b)."""
    a, b, c = shape
    return Fraction(4 * a * a, a * a - d * b * b)


def mate_sign(d, shape):
    return sign_at(d, (shape[0], -shape[1], shape[2]))


def between(low, high):
    """A fraction x not below 0 with low not above 4 x x, and 4 x x below high."""
    many = 1
    while True:
        guess = Fraction(int(many * (float(low) / 4) ** 0.5), many)
        for x in (guess, guess + Fraction(1, many)):
            if low <= 4 * x * x < high:
                return x
        many *= 2


def width_near(d, ratio):
    """A width a + b times the root whose mate, over it, is near the ratio (not -1)."""
    part = Fraction((1 - ratio) / ((1 + ratio) * d ** 0.5)).limit_denominator(10 ** 7)
    width = num(part.denominator, part.numerator)
    return width if sign_at(d, width) > 0 else (-width[0], -width[1], 1)


def made_bar(d, kinds, shape):
    """A bar for kinds with mates of one sign and a shape that leans more, or has a mate of the other sign."""
    mates = mate_sign(d, kinds[0])
    if mate_sign(d, shape) != mates:
        return (num(1), (num(0), num(0), num(0), num(mates)))
    if mates > 0:
        x = between(max(lean(d, kind) - 4 for kind in kinds), lean(d, shape) - 4)
        skew = 1 if shape[1] > 0 else -1
        weights = (num(x.numerator, 0, x.denominator), num(skew), num(-skew), num(x.numerator, 0, x.denominator))
        middle = number_of((Fraction(0), Fraction(-2 * abs(shape[1]), shape[2])))
    else:
        x = between(max(-lean(d, kind) for kind in kinds), -lean(d, shape))
        weights = (num(x.numerator, 0, x.denominator), num(1), num(1), num(-x.numerator, 0, x.denominator))
        middle = number_of((Fraction(2 * shape[0], shape[2]), Fraction(0)))
    # The weighed product is least, for a width of 1, where the width's mate is -B over 2C; B alone tells its sign else.
    root = d ** 0.5
    floated = (middle[0] + middle[1] * root) / middle[2]
    last = mates * float(x) * (shape[0] - shape[1] * root) / shape[2]
    return (width_near(d, -floated / (2 * last)) if x else width_of_sign(d, -floated), weights)


def width_of_sign(d, wanted):
    """A width whose mate has the wanted sign."""
    return num(1) if wanted > 0 else num(0, 1)


def some_shapes(d, seed, many, mates):
    """Shapes whose mates have the told sign."""
    chance = random.Random(seed)
    found = []
    while len(found) < many:
        shape = num(chance.randint(-9, 9), chance.randint(-9, 9), chance.randint(1, 6))
        if sign_at(d, shape) > 0 and mate_sign(d, shape) == mates:
            found.append(shape)
    return found
