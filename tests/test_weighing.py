"""Points 3 and 9: weighed products, of the floor and of its tiles."""

import copy
import random
import unittest
from fractions import Fraction

from matefloors.errors import FloorError, NoLaying
from matefloors.moving import mirrored, put_in, stretched
from matefloors.numbers import is_number
from matefloors.weighing import weighed, weighed_sums
from tests.samples import (FORTY, NO_LAYINGS, PINWHEEL, ROOT_PINWHEEL, ROOTS, SIXTY, TWO_HUNDRED, TWO_THOUSAND,
                           floor_of, num, number_of, pair_mate, pair_of, pair_plus, pair_times, some_laying,
                           some_numbers)

UNITS = [tuple(num(int(at == place)) for at in range(4)) for place in range(4)]
NOUGHTS = (num(0),) * 4


def by_pairs(d, weights, width, height):
    """The weighed product reckoned with pairs of Fractions."""
    p, q, s, t = [pair_of(weight) for weight in weights]
    w, h = pair_of(width), pair_of(height)
    total = (Fraction(0), Fraction(0))
    for weight, first, second in [(p, w, h), (q, w, pair_mate(h)), (s, pair_mate(w), h),
                                  (t, pair_mate(w), pair_mate(h))]:
        total = pair_plus(total, pair_times(d, weight, pair_times(d, first, second)))
    return number_of(total)


def sum_of(numbers):
    total = (Fraction(0), Fraction(0))
    for x in numbers:
        total = pair_plus(total, pair_of(x))
    return number_of(total)


def some_weights(seed, many):
    """Weights with noughts, fractions, roots, of all signs."""
    chance = random.Random(seed)
    found = UNITS + [NOUGHTS, (num(0), num(1), num(-1), num(0)), (num(1), num(0), num(0), num(-1))]
    numbers = some_numbers(seed, 60) + [num(0)] * 15
    while len(found) < many:
        found.append(tuple(chance.choice(numbers) for at in range(4)))
    return found


class WeighedTest(unittest.TestCase):
    def test_by_hand(self):
        w, h = num(1, 1), num(3, -2)
        # (1 + r)(3 - 2r), (1 + r)(3 + 2r), (1 - r)(3 - 2r), (1 - r)(3 + 2r), r the root of 2.
        wanted = [num(-1, 1), num(7, 5), num(7, -5), num(-1, -1)]
        for unit, product in zip(UNITS, wanted):
            self.assertEqual(weighed(2, unit, w, h), product)
        self.assertEqual(weighed(2, (num(1), num(1), num(1), num(1)), w, h), num(12))
        self.assertEqual(weighed(2, (num(0), num(1), num(-1), num(0)), w, h), num(0, 10))
        self.assertEqual(weighed(2, (num(1, 0, 2), num(0, 1), num(2), num(-1, 1)), w, h), num(45, -5, 2))

    def test_noughts(self):
        for d in ROOTS:
            self.assertEqual(weighed(d, NOUGHTS, num(3, 1), num(2)), (0, 0, 1))
            for weights in some_weights(1, 20):
                self.assertEqual(weighed(d, weights, num(0), num(2, 1)), (0, 0, 1))
                self.assertEqual(weighed(d, weights, num(2, 1), num(0)), (0, 0, 1))
                self.assertEqual(weighed(d, weights, num(0), num(0)), (0, 0, 1))

    def test_many(self):
        numbers = some_numbers(2, 200)
        for at, weights in enumerate(some_weights(2, 120)):
            d = ROOTS[at % len(ROOTS)]
            for width, height in [(numbers[at], numbers[at + 50]), (numbers[at + 1], numbers[at + 1])]:
                told = weighed(d, weights, width, height)
                self.assertEqual(told, by_pairs(d, weights, width, height))
                self.assertIs(is_number(told), True)

    def test_in_lowest_terms(self):
        for weights in [(num(2), num(2), num(2), num(2)), (num(1, 0, 2),) * 4, (num(4, 6, 5), num(0), num(0), num(2))]:
            for width in (num(1, 0, 2), num(2), num(6, 2), num(3, 1, 4)):
                told = weighed(6, weights, width, num(4, 2, 3))
                self.assertIs(is_number(told), True)
                self.assertEqual(told, by_pairs(6, weights, width, num(4, 2, 3)))

    def test_the_area_and_its_mate(self):
        for at, x in enumerate(some_numbers(3, 60)):
            d = ROOTS[at % len(ROOTS)]
            for y in some_numbers(4, 30):
                area = number_of(pair_times(d, pair_of(x), pair_of(y)))
                self.assertEqual(weighed(d, UNITS[0], x, y), area)
                self.assertEqual(weighed(d, UNITS[3], x, y), (area[0], -area[1], area[2]))

    def test_put_together(self):
        numbers = some_numbers(5, 150)
        weights = some_weights(5, 60)
        for at in range(60):
            d = ROOTS[at % len(ROOTS)]
            one, other, y = numbers[at], numbers[at + 40], numbers[at + 80]
            together = sum_of([one, other])
            self.assertEqual(weighed(d, weights[at], together, y),
                             sum_of([weighed(d, weights[at], one, y), weighed(d, weights[at], other, y)]))
            self.assertEqual(weighed(d, weights[at], y, together),
                             sum_of([weighed(d, weights[at], y, one), weighed(d, weights[at], y, other)]))
            both = tuple(sum_of(pair) for pair in zip(weights[at], weights[-at - 1]))
            self.assertEqual(weighed(d, both, one, y),
                             sum_of([weighed(d, weights[at], one, y), weighed(d, weights[-at - 1], one, y)]))

    def test_great_numbers(self):
        great = [num(TWO_HUNDRED, FORTY, 7), num(-FORTY, TWO_HUNDRED, FORTY + 1), num(TWO_THOUSAND, 1, 3)]
        weights = (great[0], num(0), great[1], num(1))
        for d in ROOTS[::6]:
            for width in great:
                for height in great:
                    self.assertEqual(weighed(d, weights, width, height), by_pairs(d, weights, width, height))


class WeighedSumsTest(unittest.TestCase):
    def check(self, d, weights, laying):
        kept = copy.deepcopy((weights, laying))
        told = weighed_sums(d, weights, laying)
        self.assertIsInstance(told, tuple)
        self.assertEqual(len(told), 2)
        floor, tiles = told
        self.assertIsInstance(tiles, list)
        self.assertEqual(floor, by_pairs(d, weights, laying[0], laying[1]))
        self.assertEqual(tiles, [by_pairs(d, weights, tile[2], tile[3]) for tile in laying[2]])
        self.assertEqual(sum_of(tiles), floor)
        self.assertEqual((weights, laying), kept)

    def test_by_hand(self):
        laying = floor_of(num(1, 1), 1, (0, 0, 1, 1), (1, 0, num(0, 1), 1))
        self.assertEqual(weighed_sums(2, UNITS[0], laying), (num(1, 1), [num(1), num(0, 1)]))
        self.assertEqual(weighed_sums(2, UNITS[2], laying), (num(1, -1), [num(1), num(0, -1)]))
        skew = (num(0), num(1), num(-1), num(0))
        self.assertEqual(weighed_sums(3, skew, laying), (num(0, 2), [num(0), num(0, 2)]))
        self.assertEqual(weighed_sums(2, UNITS[0], PINWHEEL), (num(9), [num(2)] * 4 + [num(1)]))

    def test_grids(self):
        for at, weights in enumerate(some_weights(6, 30)):
            self.check(ROOTS[at % len(ROOTS)], weights, SIXTY)
        grid = floor_of(num(2, 1), num(3, 3), *[(x, y, width, num(1, 1)) for y in (0, num(1, 1), num(2, 2))
                                                for x, width in [(0, num(0, 1)), (num(0, 1), 2)]])
        for at, weights in enumerate(some_weights(7, 30)):
            self.check(ROOTS[at % len(ROOTS)], weights, grid)

    def test_four_tiles_around_a_middle_one(self):
        for at, weights in enumerate(some_weights(8, 50)):
            d = ROOTS[at % len(ROOTS)]
            self.check(d, weights, PINWHEEL)
            self.check(d, weights, ROOT_PINWHEEL)
            self.check(d, weights, put_in(d, ROOT_PINWHEEL, at % 5, floor_within(ROOT_PINWHEEL, at % 5)))

    def test_tiles_in_any_order(self):
        chance = random.Random(9)
        for at, weights in enumerate(some_weights(9, 30)):
            tiles = list(ROOT_PINWHEEL[2])
            chance.shuffle(tiles)
            self.check(ROOTS[at % len(ROOTS)], weights, (ROOT_PINWHEEL[0], ROOT_PINWHEEL[1], tuple(tiles)))

    def test_one_to_sixty_tiles(self):
        weights = some_weights(10, 60)
        for many in range(1, 61, 3):
            d = ROOTS[many % len(ROOTS)]
            self.check(d, weights[many - 1], some_laying(d, 900 + many, many))

    def test_moved(self):
        for at, weights in enumerate(some_weights(11, 20)):
            d = ROOTS[at % len(ROOTS)]
            laying = some_laying(d, 950 + at, 10 + at)
            self.assertEqual(weighed_sums(d, weights, mirrored(d, laying)), weighed_sums(d, weights, laying))
            self.check(d, weights, stretched(d, laying, num(1, 1, 3)))

    def test_a_new_list_each_time(self):
        first = weighed_sums(2, UNITS[0], PINWHEEL)[1]
        second = weighed_sums(2, UNITS[0], PINWHEEL)[1]
        self.assertIsNot(first, second)
        first.append("x")
        first[0] = None
        self.assertEqual(second, [num(2)] * 4 + [num(1)])
        self.assertEqual(weighed_sums(2, UNITS[0], PINWHEEL), (num(9), second))

    def test_no_laying(self):
        for thing in NO_LAYINGS:
            with self.subTest(str(thing)[:60]):
                kept = copy.deepcopy(thing)
                with self.assertRaises(FloorError) as taken:
                    weighed_sums(2, UNITS[0], thing)
                self.assertIs(taken.exception.__class__, NoLaying)
                self.assertEqual(thing, kept)
                self.assertEqual(weighed_sums(2, UNITS[0], PINWHEEL), (num(9), [num(2)] * 4 + [num(1)]))


def floor_within(laying, place):
    """A floor of the shape of a tile, cut into two of one size beside one another."""
    x, y, width, height = laying[2][place]
    half = num(width[0], width[1], 2 * width[2])
    return (width, height, ((num(0), num(0), half, height), (half, num(0), half, height)))


if __name__ == "__main__":
    unittest.main()
