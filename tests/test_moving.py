"""Point 8: layings turned, mirrored and stretched."""

import copy
import unittest
from fractions import Fraction

from matefloors.errors import FloorError, NoLaying, NoNumber
from matefloors.layings import is_by, is_laying, shapes_in, tiles_at
from matefloors.moving import mirrored, stretched, turned
from tests.samples import (FORTY, NO_LAYINGS, NO_NUMBERS, NOT_ABOVE, PINWHEEL, ROOT_PINWHEEL, ROOTS, SIXTY,
                           TWO_THOUSAND, floor_of, laying_of, num, number_of, pair_less, pair_of, pair_over, pair_plus,
                           pair_times, root_fractions, some_boxes)

ONE_TILE = floor_of(3, num(1, 1), (0, 0, 3, num(1, 1)))


def turned_boxes(height, boxes):
    return [(pair_less(pair_less(height, y), high), x, high, wide) for x, y, wide, high in boxes]


def mirrored_boxes(width, boxes):
    return [(pair_less(pair_less(width, x), wide), y, wide, high) for x, y, wide, high in boxes]


def stretched_boxes(d, factor, boxes):
    return [tuple(pair_times(d, part, factor) for part in box) for box in boxes]


def some_floors():
    """Roots with floors cut into one to sixty tiles, by all sorts of cuts."""
    for many in range(1, 61):
        yield ROOTS[many % len(ROOTS)], some_boxes(ROOTS[many % len(ROOTS)], 500 + many, many)


def some_layings():
    """Roots with layings of all sorts."""
    for d, floor in list(some_floors())[::4]:
        yield d, laying_of(*floor)
    for d in ROOTS[::3]:
        for laying in (ONE_TILE, PINWHEEL, ROOT_PINWHEEL, SIXTY):
            yield d, laying


def some_factors(d):
    """Factors whole, fractions, with a root, and just above 0."""
    (low, low_part), (high, high_part) = root_fractions(d, 30)
    return [num(1), num(2), num(FORTY), num(1, 0, 2), num(7, 0, 3), num(1, 0, FORTY), num(0, 1), num(0, 1, d),
            num(1, 1), num(31, -1), num(5, 2, 7), num(high, -high_part), num(-low, low_part)]


class TurnedTest(unittest.TestCase):
    def test_by_hand(self):
        self.assertEqual(turned(2, ONE_TILE), floor_of(num(1, 1), 3, (0, 0, num(1, 1), 3)))
        self.assertEqual(turned(2, floor_of(2, 3, (0, 0, 2, 1), (0, 1, 1, 2), (1, 1, 1, 2))),
                         floor_of(3, 2, (2, 0, 1, 2), (0, 0, 2, 1), (0, 1, 2, 1)))
        self.assertEqual(turned(2, PINWHEEL), floor_of(
            3, 3, (2, 0, 1, 2), (1, 2, 2, 1), (0, 1, 1, 2), (0, 0, 2, 1), (1, 1, 1, 1)))
        self.assertEqual(turned(5, ROOT_PINWHEEL), (num(4), num(3, 1), (
            (num(3), num(0), num(1), num(1, 1)), (num(5, 0, 2), num(1, 1), num(3, 0, 2), num(2)),
            (num(0), num(1), num(5, 0, 2), num(2, 1)), (num(0), num(0), num(3), num(1)),
            (num(5, 0, 2), num(1), num(1, 0, 2), num(0, 1)))))

    def test_one_to_sixty_tiles(self):
        for d, (width, height, boxes) in some_floors():
            laying = laying_of(width, height, boxes)
            self.assertEqual(turned(d, laying), laying_of(height, width, turned_boxes(height, boxes)))

    def test_sixty_tiles(self):
        wanted = [(5 - y, x, 1, 1) for y in range(6) for x in range(10)]
        self.assertEqual(turned(2, SIXTY), floor_of(6, 10, *wanted))

    def test_four_times(self):
        for d, laying in some_layings():
            once = turned(d, laying)
            twice = turned(d, once)
            thrice = turned(d, twice)
            self.assertEqual(turned(d, thrice), laying)
            if len(laying[2]) > 5:
                self.assertNotEqual(twice, laying)
            self.assertEqual(mirrored(d, turned(d, mirrored(d, laying))), thrice)
            self.assertEqual(turned(d, mirrored(d, turned(d, laying))), mirrored(d, laying))


class MirroredTest(unittest.TestCase):
    def test_by_hand(self):
        self.assertEqual(mirrored(2, ONE_TILE), ONE_TILE)
        self.assertEqual(mirrored(2, floor_of(2, 3, (0, 0, 2, 1), (0, 1, 1, 2), (1, 1, 1, 2))),
                         floor_of(2, 3, (0, 0, 2, 1), (1, 1, 1, 2), (0, 1, 1, 2)))
        self.assertEqual(mirrored(2, PINWHEEL), floor_of(
            3, 3, (1, 0, 2, 1), (0, 0, 1, 2), (0, 2, 2, 1), (2, 1, 1, 2), (1, 1, 1, 1)))
        self.assertEqual(mirrored(5, ROOT_PINWHEEL), (num(3, 1), num(4), (
            (num(2), num(0), num(1, 1), num(1)), (num(0), num(0), num(2), num(3, 0, 2)),
            (num(0), num(3, 0, 2), num(2, 1), num(5, 0, 2)), (num(2, 1), num(1), num(1), num(3)),
            (num(2), num(1), num(0, 1), num(1, 0, 2)))))

    def test_one_to_sixty_tiles(self):
        for d, (width, height, boxes) in some_floors():
            laying = laying_of(width, height, boxes)
            self.assertEqual(mirrored(d, laying), laying_of(width, height, mirrored_boxes(width, boxes)))

    def test_twice(self):
        for d, laying in some_layings():
            once = mirrored(d, laying)
            self.assertEqual(mirrored(d, once), laying)


class StretchedTest(unittest.TestCase):
    def test_by_hand(self):
        laying = floor_of(2, 3, (0, 0, 2, 1), (0, 1, 1, 2), (1, 1, 1, 2))
        self.assertEqual(stretched(2, laying, num(1)), laying)
        self.assertEqual(stretched(2, laying, num(2)), floor_of(4, 6, (0, 0, 4, 2), (0, 2, 2, 4), (2, 2, 2, 4)))
        half = Fraction(1, 2)
        self.assertEqual(stretched(2, laying, num(1, 0, 2)),
                         floor_of(1, 3 * half, (0, 0, 1, half), (0, half, half, 1), (half, half, half, 1)))
        root = num(0, 1)
        self.assertEqual(stretched(2, floor_of(root, 1, (0, 0, root, 1)), root), floor_of(2, root, (0, 0, 2, root)))
        self.assertEqual(stretched(3, floor_of(root, 1, (0, 0, root, 1)), root), floor_of(3, root, (0, 0, 3, root)))

    def test_one_to_sixty_tiles(self):
        for at, (d, (width, height, boxes)) in enumerate(some_floors()):
            factors = some_factors(d)
            for factor in (factors[at % len(factors)], factors[(5 * at + 2) % len(factors)]):
                pair = pair_of(factor)
                wanted = laying_of(pair_times(d, width, pair), pair_times(d, height, pair),
                                   stretched_boxes(d, pair, boxes))
                self.assertEqual(stretched(d, laying_of(width, height, boxes), factor), wanted)

    def test_there_and_back(self):
        for d, laying in some_layings():
            for factor in some_factors(d):
                back = number_of(pair_over(d, (Fraction(1), Fraction(0)), pair_of(factor)))
                self.assertEqual(stretched(d, stretched(d, laying, factor), back), laying)

    def test_just_above_nought(self):
        for d in ROOTS:
            (low, low_part), (high, high_part) = root_fractions(d, 40)
            for tiny in (num(high, -high_part), num(-low, low_part), num(1, 0, TWO_THOUSAND)):
                told = stretched(d, floor_of(2, 1, (0, 0, 1, 1), (1, 0, 1, 1)), tiny)
                twice = tuple(2 * part for part in tiny[:2]) + (tiny[2],)
                self.assertEqual(told, (num(*twice), tiny, ((num(0), num(0), tiny, tiny), (tiny, num(0), tiny, tiny))))
                self.assertIs(is_laying(d, told), True)
            for tiny in (num(-high, high_part), num(low, -low_part), num(-1, 0, TWO_THOUSAND)):
                with self.assertRaises(NoNumber):
                    stretched(d, PINWHEEL, tiny)


class MovedTest(unittest.TestCase):
    """What holds of all three."""

    def test_what_is_told_is_a_laying_and_the_first_stays(self):
        for d, laying in some_layings():
            kept = copy.deepcopy(laying)
            for told in (turned(d, laying), mirrored(d, laying), stretched(d, laying, num(1, 1, 3))):
                self.assertIs(is_laying(d, told), True)
                self.assertIsInstance(told, tuple)
                self.assertEqual(len(told[2]), len(laying[2]))
            self.assertEqual(laying, kept)
            self.assertIs(is_laying(d, laying), True)

    def test_in_the_tiles_order(self):
        for turn in range(5):
            laying = (PINWHEEL[0], PINWHEEL[1], PINWHEEL[2][turn:] + PINWHEEL[2][:turn])
            for move in (turned, mirrored, lambda d, moving: stretched(d, moving, num(2, 1))):
                first, second = move(2, PINWHEEL)[2], move(2, laying)[2]
                self.assertEqual(second, first[turn:] + first[:turn])

    def test_shapes(self):
        for d, laying in some_layings():
            shapes = shapes_in(d, laying)
            turned_shapes = [number_of(pair_over(d, (Fraction(1), Fraction(0)), pair_of(shape))) for shape in shapes]
            self.assertEqual(shapes_in(d, turned(d, laying)), turned_shapes)
            self.assertEqual(shapes_in(d, mirrored(d, laying)), shapes)
            self.assertEqual(shapes_in(d, stretched(d, laying, num(0, 3, 2))), shapes)

    def test_by_the_same_kinds(self):
        for d, laying in some_layings():
            shapes = shapes_in(d, laying)
            for kinds in (tuple(shapes[:1]), tuple(shapes[:3]), (num(1),), (num(1), num(2)), tuple(shapes[-2:])):
                wanted = is_by(d, laying, kinds)
                for told in (turned(d, laying), mirrored(d, laying), stretched(d, laying, num(1, 1, 2))):
                    self.assertIs(is_by(d, told, kinds), wanted)
        self.assertIs(is_by(2, turned(2, PINWHEEL), (num(1), num(2))), True)

    def test_the_tiles_at_the_spot_that_goes_along(self):
        factor = (Fraction(1, 2), Fraction(1, 3))
        for seed in range(12):
            d = ROOTS[2 * seed]
            width, height, boxes = some_boxes(d, 600 + seed, 3 + 4 * seed)
            laying = laying_of(width, height, boxes)
            moved = [turned(d, laying), mirrored(d, laying), stretched(d, laying, number_of(factor))]
            for x, y, wide, high in boxes:
                for spot_x, spot_y in [(x, y), (pair_plus(x, wide), y), (x, pair_plus(y, high)),
                                       (pair_plus(x, (wide[0] / 3, wide[1] / 3)), pair_plus(y, high)),
                                       (pair_plus(x, (wide[0] / 2, wide[1] / 2)), pair_less(y, (high[0], high[1])))]:
                    wanted = tiles_at(d, laying, number_of(spot_x), number_of(spot_y))
                    spots = [(pair_less(height, spot_y), spot_x), (pair_less(width, spot_x), spot_y),
                             (pair_times(d, spot_x, factor), pair_times(d, spot_y, factor))]
                    for told, (along_x, along_y) in zip(moved, spots):
                        self.assertEqual(tiles_at(d, told, number_of(along_x), number_of(along_y)), wanted)

    def test_stretched_and_turned_in_any_order(self):
        for d, laying in some_layings():
            for factor in some_factors(d)[1::4]:
                self.assertEqual(turned(d, stretched(d, laying, factor)), stretched(d, turned(d, laying), factor))
                self.assertEqual(mirrored(d, stretched(d, laying, factor)), stretched(d, mirrored(d, laying), factor))

    def test_what_was_told_is_moved_again(self):
        laying, factor = ROOT_PINWHEEL, num(FORTY, 7, FORTY + 1)
        for step in range(12):
            laying = turned(7, stretched(7, laying, factor))
        self.assertGreater(max(len(str(part)) for part in laying[0]), 400)
        self.assertIs(is_laying(7, laying), True)
        self.assertEqual(shapes_in(7, laying), shapes_in(7, ROOT_PINWHEEL))


class RefusalsTest(unittest.TestCase):
    def refused(self, error, deed, *things):
        kept = copy.deepcopy(things)
        with self.assertRaises(FloorError) as taken:
            deed(2, *things)
        self.assertIs(taken.exception.__class__, error)
        self.assertEqual(things, kept)
        self.assertEqual(turned(2, ONE_TILE), floor_of(num(1, 1), 3, (0, 0, num(1, 1), 3)))
        self.assertEqual(mirrored(2, ONE_TILE), ONE_TILE)
        self.assertEqual(stretched(2, ONE_TILE, num(2)), floor_of(6, num(2, 2), (0, 0, 6, num(2, 2))))

    def test_no_laying(self):
        for thing in NO_LAYINGS:
            with self.subTest(str(thing)[:60]):
                self.refused(NoLaying, turned, thing)
                self.refused(NoLaying, mirrored, thing)
                self.refused(NoLaying, stretched, thing, num(2))

    def test_a_factor_that_is_no_number_above_nought(self):
        for thing in NO_NUMBERS + NOT_ABOVE + NO_LAYINGS[-8:]:
            with self.subTest(str(thing)[:60]):
                self.refused(NoNumber, stretched, PINWHEEL, thing)

    def test_no_laying_ahead_of_no_number(self):
        for laying in NO_LAYINGS[::3]:
            for thing in NO_NUMBERS[::6] + NOT_ABOVE[:2]:
                self.refused(NoLaying, stretched, laying, thing)


if __name__ == "__main__":
    unittest.main()
