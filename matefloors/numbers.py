"""Numbers made of fractions and the root of one whole number, reckoned exactly.

A number is a tuple (a, b, c) of whole numbers: (a + b times the root of d) over c, c from 1 on, in lowest terms.
"""

from matefloors.errors import NoNumber

LEAST_ROOT = 2
GREATEST_ROOT = 30
NOUGHT = (0, 0, 1)
ONE = (1, 0, 1)


def is_whole(thing):
    """Tell of any thing whether it is a whole number."""
    # To Python True and False are ints; to the program they are no numbers.
    return isinstance(thing, int) and not isinstance(thing, bool)


def common_divisor(a, b):
    """Tell the greatest whole number that divides both; 0 where both are 0."""
    while b != 0:
        a, b = b, a % b
    return abs(a)


def whole_root(k):
    """Tell the greatest whole number whose square isn't above k, k from 0 on."""
    # The start lies above the root; each step falls, but never beneath the answer.
    guess = 1 << ((k.bit_length() + 1) // 2)
    while guess * guess > k:
        guess = (guess + k // guess) // 2
    return guess


def is_root(thing):
    """Tell of any thing whether it is a root: a whole number from 2 to 30 that is no square."""
    if not is_whole(thing) or thing < LEAST_ROOT or thing > GREATEST_ROOT:
        return False
    return whole_root(thing) ** 2 != thing


def is_number(thing):
    """Tell of any thing whether it is a number."""
    if not isinstance(thing, tuple) or len(thing) != 3:
        return False
    a, b, c = thing
    if not is_whole(a) or not is_whole(b) or not is_whole(c):
        return False
    return c >= 1 and divisor_of_all(a, b, c) == 1


def divisor_of_all(a, b, c):
    """Tell the greatest whole number that divides all three."""
    # Begun with c, since a whole number's c is 1 and ends the search at once.
    return common_divisor(common_divisor(c, a), b)


def number(a, b, c):
    """Tell the number that three whole numbers make, the third not 0."""
    if c == 0:
        raise NoNumber("the third whole number is 0")
    divisor = divisor_of_all(a, b, c)
    if c < 0:
        divisor = -divisor
    return (a // divisor, b // divisor, c // divisor)


def mate(x):
    """Tell the number with the root's sign turned."""
    return (x[0], -x[1], x[2])


def plus(x, y):
    """Tell the sum."""
    return number(x[0] * y[2] + y[0] * x[2], x[1] * y[2] + y[1] * x[2], x[2] * y[2])


def less(x, y):
    """Tell the difference, x less y."""
    return number(x[0] * y[2] - y[0] * x[2], x[1] * y[2] - y[1] * x[2], x[2] * y[2])


def times(d, x, y):
    """Tell the product."""
    return number(x[0] * y[0] + d * x[1] * y[1], x[0] * y[1] + x[1] * y[0], x[2] * y[2])


def over(d, x, y):
    """Tell the quotient, x over y, y not nought."""
    if y == NOUGHT:
        raise NoNumber("nothing is told over nought")
    return times(d, x, contrary(d, y))


def contrary(d, x):
    """Tell 1 over x, x not nought."""
    # A number times its mate is a fraction, and 0 for nought alone, since d is no square.
    norm = x[0] * x[0] - d * x[1] * x[1]
    return number(x[2] * x[0], -x[2] * x[1], norm)


def sign_of(d, x):
    """Tell the sign of a number: -1, 0 or 1."""
    return sign_of_parts(d, x[0], x[1])


def sign_of_parts(d, a, b):
    """Tell the sign of a + b times the root of d."""
    if a == 0 and b == 0:
        return 0
    if a >= 0 and b >= 0:
        return 1
    if a <= 0 and b <= 0:
        return -1
    # Of contrary signs the part with the greater square prevails; d being no square, the two are never alike.
    prevailing = a if a * a > d * b * b else b
    return 1 if prevailing > 0 else -1


def is_above(d, x, y):
    """Tell whether x is above y."""
    a = x[0] * y[2] - y[0] * x[2]
    b = x[1] * y[2] - y[1] * x[2]
    return sign_of_parts(d, a, b) == 1


def is_above_nought(d, thing):
    """Tell of any thing whether it is a number above 0."""
    return is_number(thing) and sign_of(d, thing) == 1


def must_be_above_nought(d, thing):
    """Refuse what is no number above 0."""
    if not is_above_nought(d, thing):
        raise NoNumber("this is no number above 0")


def whole_beneath(d, x):
    """Tell the greatest whole number that isn't above x."""
    a, b, c = x
    beneath = whole_root(d * b * b)
    if b < 0:
        # d being no square, the root of d * b * b lies above the whole number beneath it, never on it.
        beneath = -beneath - 1
    return (a + beneath) // c
