"""Points 6 and 7: what is a laying; its shapes, whether it is by kinds, the tiles at a spot."""

import copy
import random
import unittest
from fractions import Fraction

from matefloors.layings import is_by, is_laying, shapes_in, tiles_at
from tests.samples import (FORTY, NO_NUMBERS, PINWHEEL, ROOT_PINWHEEL, ROOTS, SIXTY, TWO_HUNDRED, floor_of, laying_of,
                           num, number_of, order, pair_less, pair_of, pair_over, pair_plus, some_boxes, some_laying)

GOLDEN = (num(1, 1, 2), num(1), ((num(0), num(0), num(1), num(1)), (num(1), num(0), num(-1, 1, 2), num(1))))


def put(thing, path, other):
    """The same thing, tuple within tuple, with another one at a place."""
    if not path:
        return other
    at = path[0]
    return thing[:at] + (put(thing[at], path[1:], other),) + thing[at + 1:]


class IsLayingTest(unittest.TestCase):
    def check(self, d, thing, wanted):
        kept = copy.deepcopy(thing)
        self.assertIs(is_laying(d, thing), wanted)
        self.assertEqual(thing, kept)

    def test_one_tile(self):
        for d in ROOTS:
            self.check(d, floor_of(1, 1, (0, 0, 1, 1)), True)
            self.check(d, floor_of(num(1, 1, 2), num(0, 1), (0, 0, num(1, 1, 2), num(0, 1))), True)
            self.check(d, floor_of(num(1, 1, 2), num(0, 1), (0, 0, num(0, 1), num(1, 1, 2))), False)

    def test_by_hand(self):
        half = Fraction(1, 2)
        self.check(2, floor_of(2, 1, (0, 0, 1, 1), (1, 0, 1, 1)), True)
        self.check(2, floor_of(2, 1, (1, 0, 1, 1), (0, 0, 1, 1)), True)
        self.check(2, floor_of(1, 2, (0, 0, 1, half), (0, half, 1, 3 * half)), True)
        self.check(2, floor_of(3, 2, (0, 0, 1, 2), (1, 0, 2, 1), (1, 1, 2, 1)), True)
        self.check(5, GOLDEN, True)
        self.check(2, SIXTY, True)

    def test_no_cut_goes_through(self):
        for d in ROOTS:
            self.check(d, PINWHEEL, True)
            self.check(d, ROOT_PINWHEEL, True)

    def test_in_any_order(self):
        chance = random.Random(21)
        for laying in (PINWHEEL, ROOT_PINWHEEL, SIXTY):
            tiles = list(laying[2])
            for turn in range(10):
                chance.shuffle(tiles)
                self.check(2, (laying[0], laying[1], tuple(tiles)), True)

    def test_one_to_sixty_tiles(self):
        for many in range(1, 61):
            d = ROOTS[many % len(ROOTS)]
            laying = some_laying(d, many, many)
            self.assertEqual(len(laying[2]), many)
            self.check(d, laying, True)

    def test_sixty_one_tiles(self):
        self.check(2, floor_of(60, 1, *[(x, 0, 1, 1) for x in range(60)]), True)
        self.check(2, floor_of(61, 1, *[(x, 0, 1, 1) for x in range(61)]), False)
        for seed in range(4):
            self.check(3, some_laying(3, seed, 61), False)
        self.check(2, floor_of(1, 1, *[(0, 0, 1, 1)] * 2000), False)

    def test_no_tile(self):
        self.check(2, floor_of(1, 1), False)

    def test_the_root_told_beside(self):
        # The root of d less 2 is above 0 from 5 on alone.
        laying = (num(0, 1), num(1), ((num(0), num(0), num(2), num(1)), (num(2), num(0), num(-2, 1), num(1))))
        for d in ROOTS:
            self.check(d, laying, d > 4)
        # The root of d is between two others or not.
        laying = floor_of(3, 1, (0, 0, num(0, 1), 1), (num(0, 1), 0, num(3, -1), 1))
        for d in ROOTS:
            self.check(d, laying, d < 9)

    def test_a_gap(self):
        self.check(2, floor_of(2, 1, (0, 0, 1, 1)), False)
        self.check(2, floor_of(2, 1, (1, 0, 1, 1)), False)
        self.check(2, floor_of(1, 2, (0, 1, 1, 1)), False)
        self.check(2, floor_of(1, 2, (0, 0, 1, 1)), False)
        self.check(2, floor_of(3, 1, (0, 0, 1, 1), (2, 0, 1, 1)), False)
        self.check(2, floor_of(1, 3, (0, 0, 1, 1), (0, 2, 1, 1)), False)
        self.check(2, floor_of(2, 2, (0, 0, 1, 1), (1, 1, 1, 1)), False)
        self.check(2, floor_of(2, 2, (0, 0, 1, 1), (1, 1, 1, 1), (1, 0, 1, 1)), False)
        self.check(2, (PINWHEEL[0], PINWHEEL[1], PINWHEEL[2][:4]), False)
        for at in range(5):
            for whole in (PINWHEEL, ROOT_PINWHEEL):
                self.check(2, (whole[0], whole[1], whole[2][:at] + whole[2][at + 1:]), False)

    def test_upon_one_another(self):
        self.check(2, floor_of(1, 1, (0, 0, 1, 1), (0, 0, 1, 1)), False)
        self.check(2, floor_of(2, 1, (0, 0, 1, 1), (1, 0, 1, 1), (1, 0, 1, 1)), False)
        self.check(2, floor_of(2, 2, (0, 0, 2, 2), (Fraction(1, 2), Fraction(1, 2), 1, 1)), False)
        self.check(2, floor_of(3, 1, (0, 0, 2, 1), (1, 0, 2, 1)), False)
        self.check(2, floor_of(3, 3, *[(0, 0, 2, 3), (1, 0, 2, 3)]), False)

    def test_upon_one_another_with_the_floors_area(self):
        self.check(2, floor_of(2, 2, (0, 0, 2, 1), (0, 0, 2, 1)), False)
        self.check(2, floor_of(2, 2, (0, 1, 2, 1), (0, 1, 2, 1)), False)
        self.check(2, floor_of(4, 1, (0, 0, 2, 1), (1, 0, 2, 1)), False)
        self.check(2, floor_of(4, 1, (0, 0, 2, 1), (1, 0, 1, 1), (3, 0, 1, 1)), False)
        self.check(2, floor_of(2, 2, (0, 0, 1, 2), (0, 0, 2, 1)), False)
        self.check(2, floor_of(3, 3, (0, 0, 2, 1), (2, 0, 1, 2), (1, 2, 2, 1), (0, 1, 1, 2), (0, 0, 1, 1)), False)
        self.check(2, floor_of(3, 3, (0, 0, 2, 2), (1, 1, 2, 2), (2, 0, 1, 1)), False)
        self.check(2, floor_of(num(0, 2), 1, (0, 0, num(0, 1), 1), (num(-1, 1), 0, num(0, 1), 1)), False)

    def test_beyond_the_floor(self):
        self.check(2, floor_of(1, 1, (0, 0, 2, 1)), False)
        self.check(2, floor_of(1, 1, (0, 0, 1, 2)), False)
        self.check(2, floor_of(1, 1, (0, 0, 1, 1), (1, 0, 1, 1)), False)
        self.check(2, floor_of(1, 1, (0, 0, 1, 1), (0, 1, 1, 1)), False)
        self.check(2, floor_of(1, 1, (0, 0, 1, 1), (5, 5, 1, 1)), False)
        self.check(2, floor_of(2, 2, (0, 0, 1, 4)), False)
        self.check(2, floor_of(2, 2, (0, 0, 2, 1), (2, 1, 2, 1)), False)
        self.check(2, floor_of(1, 1, (1, 0, 1, 1)), False)
        self.check(2, floor_of(1, 1, (0, 1, 1, 1)), False)

    def test_by_a_hair(self):
        hair = Fraction(1, TWO_HUNDRED)
        self.check(2, floor_of(2, 1, (0, 0, 1 + hair, 1), (1 + hair, 0, 1 - hair, 1)), True)
        self.check(2, floor_of(2, 1, (0, 0, 1 + hair, 1), (1, 0, 1, 1)), False)
        self.check(2, floor_of(2, 1, (0, 0, 1 - hair, 1), (1, 0, 1, 1)), False)
        self.check(2, floor_of(2, 1, (0, 0, 1, 1), (1, 0, 1 + hair, 1)), False)
        self.check(2, floor_of(2, 1, (0, 0, 1, 1), (1, 0, 1 - hair, 1)), False)
        self.check(2, floor_of(2, 1, (0, hair, 1, 1 - hair), (1, 0, 1, 1)), False)

    def test_sides_of_nought_or_below(self):
        good = floor_of(1, 1, (0, 0, 1, 1))
        for x in (num(0), num(-1), num(0, -1), num(1, -1), num(-3, 2), (-1, 0, FORTY)):
            for path in [(0,), (1,), (2, 0, 2), (2, 0, 3)]:
                self.check(2, put(good, path, x), False)
        self.check(2, floor_of(-1, -1, (0, 0, -1, -1)), False)
        self.check(2, floor_of(1, 1, (0, 0, 1, 1), (0, 0, 0, 1)), False)
        self.check(2, floor_of(1, 1, (0, 0, 1, 1), (1, 0, 0, 1)), False)
        self.check(2, floor_of(1, 1, (0, 0, 1, 1), (0, 1, 1, 0)), False)
        self.check(2, floor_of(2, 1, (0, 0, 3, 1), (3, 0, -1, 1)), False)

    def test_corners_below_nought(self):
        self.check(2, floor_of(1, 1, (-1, 0, 2, 1)), False)
        self.check(2, floor_of(1, 1, (0, -1, 1, 2)), False)
        self.check(2, floor_of(1, 1, (-1, 0, 1, 1), (0, 0, 1, 1)), False)
        self.check(2, floor_of(1, 1, (num(1, -1), 0, num(0, 1), 1)), False)
        self.check(2, floor_of(2, 1, (-1, 0, 1, 1), (0, 0, 1, 1)), False)

    def test_not_in_lowest_terms(self):
        for thing in (floor_of(1, 1, (0, 0, 1, 1)), PINWHEEL, ROOT_PINWHEEL):
            self.check(2, put(thing, (0,), tuple(2 * k for k in thing[0])), False)
            self.check(2, put(thing, (1,), tuple(3 * k for k in thing[1])), False)
            for at in range(len(thing[2])):
                for part in range(4):
                    worse = tuple(2 * k for k in thing[2][at][part])
                    self.check(2, put(thing, (2, at, part), worse), False)

    def test_lists_in_the_place_of_tuples(self):
        for thing in (floor_of(1, 1, (0, 0, 1, 1)), PINWHEEL):
            self.check(2, list(thing), False)
            for path in [(0,), (1,), (2,), (2, 0)] + [(2, 0, part) for part in range(4)]:
                inner = thing
                for at in path:
                    inner = inner[at]
                self.check(2, put(thing, path, list(inner)), False)

    def test_odd_things_at_any_place(self):
        good = floor_of(2, 1, (0, 0, 1, 1), (1, 0, 1, 1))
        self.check(2, good, True)
        for path in [(), (0,), (1,), (2,), (2, 0), (2, 1)] + [(2, at, part) for at in (0, 1) for part in range(4)]:
            for odd in NO_NUMBERS:
                with self.subTest((path, str(odd)[:50])):
                    self.check(2, put(good, path, odd), False)

    def test_odd_things_within_a_number(self):
        good = floor_of(2, 1, (0, 0, 1, 1), (1, 0, 1, 1))
        odd_parts = [odd for odd in NO_NUMBERS if isinstance(odd, bool) or not isinstance(odd, int)]
        for inner in [(0,), (1,)] + [(2, at, part) for at in (0, 1) for part in range(4)]:
            for at in range(3):
                for odd in odd_parts + [(1, 0, 1)]:
                    with self.subTest((inner, at, str(odd)[:50])):
                        self.check(2, put(good, inner + (at,), odd), False)

    def test_tuples_of_another_length(self):
        good = floor_of(1, 1, (0, 0, 1, 1))
        self.check(2, good[:2], False)
        self.check(2, good + (num(1),), False)
        self.check(2, (good,), False)
        self.check(2, put(good, (2, 0), good[2][0][:3]), False)
        self.check(2, put(good, (2, 0), good[2][0] + (num(1),)), False)

    def test_a_change_of_one_tile(self):
        """What is changed in a right laying makes it a wrong one, whatever the tile."""
        for seed in range(25):
            d = ROOTS[seed]
            width, height, boxes = some_boxes(d, 100 + seed, 6 + seed)
            self.check(d, laying_of(width, height, boxes), True)
            for at, (x, y, wide, high) in enumerate(boxes):
                half_w, half_h = (wide[0] / 2, wide[1] / 2), (high[0] / 2, high[1] / 2)
                for other in [(x, y, half_w, high), (x, y, wide, half_h), (x, y, pair_plus(wide, half_w), high),
                              (x, y, wide, pair_plus(high, half_h)), (pair_plus(x, half_w), y, wide, high),
                              (x, pair_plus(y, half_h), wide, high)]:
                    self.check(d, laying_of(width, height, boxes[:at] + [other] + boxes[at + 1:]), False)
            self.check(d, laying_of(width, height, boxes[1:]), False)
            self.check(d, laying_of(width, height, boxes + boxes[:1]), False)
            self.check(d, laying_of(pair_plus(width, width), height, boxes), False)
            self.check(d, laying_of(width, pair_plus(height, height), boxes), False)


class ShapesInTest(unittest.TestCase):
    def test_by_hand(self):
        self.assertEqual(shapes_in(2, PINWHEEL), [(1, 0, 2), (2, 0, 1), (1, 0, 2), (2, 0, 1), (1, 0, 1)])
        self.assertEqual(shapes_in(5, GOLDEN), [(1, 0, 1), (1, 1, 2)])
        self.assertEqual(shapes_in(2, SIXTY), [(1, 0, 1)] * 60)
        self.assertEqual(shapes_in(3, floor_of(num(0, 1), 2, (0, 0, num(0, 1), 2))), [(0, 2, 3)])

    def test_in_the_tiles_order(self):
        tiles = PINWHEEL[2][::-1]
        self.assertEqual(shapes_in(2, (PINWHEEL[0], PINWHEEL[1], tiles)),
                         [(1, 0, 1), (2, 0, 1), (1, 0, 2), (2, 0, 1), (1, 0, 2)])

    def test_many(self):
        for seed in range(20):
            d = ROOTS[seed]
            laying = some_laying(d, 200 + seed, 1 + 3 * seed)
            wanted = [number_of(pair_over(d, pair_of(high), pair_of(wide))) for x, y, wide, high in laying[2]]
            self.assertEqual(shapes_in(d, laying), wanted)

    def test_a_new_list_each_time(self):
        first = shapes_in(2, PINWHEEL)
        second = shapes_in(2, PINWHEEL)
        self.assertIsNot(first, second)
        first.append("x")
        first[0] = None
        self.assertEqual(second, shapes_in(2, PINWHEEL))
        self.assertEqual(len(second), 5)
        self.assertIsInstance(second, list)


class IsByTest(unittest.TestCase):
    def test_one_kind(self):
        upright = floor_of(1, 2, (0, 0, 1, 2))
        turned = floor_of(2, 1, (0, 0, 2, 1))
        for laying in (upright, turned):
            for kind, wanted in [((2, 0, 1), True), ((1, 0, 2), True), ((1, 0, 1), False), ((0, 1, 1), False),
                                 ((2, 1, 1), False), ((4, 0, 1), False)]:
                self.assertIs(is_by(2, laying, (kind,)), wanted)

    def test_kinds_with_a_root(self):
        laying = floor_of(num(1, 1), 1, (0, 0, 1, 1), (1, 0, num(0, 1), 1))
        for d in ROOTS:
            self.assertIs(is_by(d, laying, ((1, 0, 1), (0, 1, 1))), True)
            self.assertIs(is_by(d, laying, (num(0, 1, d), (1, 0, 1))), True)
            self.assertIs(is_by(d, laying, ((1, 0, 1),)), False)
            self.assertIs(is_by(d, laying, ((0, 1, 1),)), False)
        self.assertIs(is_by(5, GOLDEN, ((1, 1, 2), (1, 0, 1))), True)
        self.assertIs(is_by(5, GOLDEN, ((-1, 1, 2), (1, 0, 1))), True)
        self.assertIs(is_by(5, GOLDEN, ((3, 1, 2), (1, 0, 1))), False)

    def test_one_to_three_kinds(self):
        one, two, three = (1, 0, 1), (2, 0, 1), (3, 0, 1)
        laying = floor_of(6, 2, (0, 0, 2, 2), (2, 0, 1, 2), (3, 0, 3, 1), (3, 1, 3, 1))
        self.assertIs(is_by(2, laying, (one, two, three)), True)
        self.assertIs(is_by(2, laying, (three, one, two)), True)
        self.assertIs(is_by(2, laying, (one, (1, 0, 2), (1, 0, 3))), True)
        for kinds in [(one,), (two,), (three,), (one, two), (one, three), (two, three), (one, two, two)]:
            self.assertIs(is_by(2, laying, kinds), False)
        self.assertIs(is_by(2, PINWHEEL, (one, two)), True)

    def test_kinds_alike(self):
        for kinds in [((2, 0, 1), (2, 0, 1)), ((2, 0, 1), (1, 0, 2)), ((2, 0, 1), (2, 0, 1), (2, 0, 1))]:
            self.assertIs(is_by(2, floor_of(1, 2, (0, 0, 1, 2)), kinds), True)
            self.assertIs(is_by(2, floor_of(1, 1, (0, 0, 1, 1)), kinds), False)

    def test_one_tile_of_sixty_is_of_no_kind(self):
        squares = [(x, y, 1, 1) for y in range(5) for x in range(10)]
        for odd in (1, Fraction(1, 2)):
            last = [(x, 5, 1, 1) for x in range(8)] + [(8, 5, odd, 1), (8 + odd, 5, 2 - odd, 1)]
            self.assertIs(is_by(2, floor_of(10, 6, *squares, *last), ((1, 0, 1),)), odd == 1)

    def test_many(self):
        for seed in range(20):
            d = ROOTS[seed]
            laying = some_laying(d, 300 + seed, 1 + seed % 7)
            shapes = [number_of(pair_over(d, pair_of(high), pair_of(wide))) for x, y, wide, high in laying[2]]
            contraries = [number_of(pair_over(d, pair_of(wide), pair_of(high))) for x, y, wide, high in laying[2]]
            for kinds in [tuple(shapes[:3]), tuple(contraries[:3]), (shapes[-1],), (contraries[0], shapes[-1])]:
                wanted = all(s in kinds or c in kinds for s, c in zip(shapes, contraries))
                self.assertIs(is_by(d, laying, kinds), wanted)


class TilesAtTest(unittest.TestCase):
    def at(self, laying, x, y):
        spot = [num(*part) if isinstance(part, tuple) else num(part) for part in (x, y)]
        return tiles_at(2, laying, *spot)

    def test_inner_spots(self):
        half = (1, 0, 2)
        for x, y, place in [(half, half, 0), ((5, 0, 2), half, 1), ((3, 0, 2), (5, 0, 2), 2), (half, (3, 0, 2), 3),
                            ((3, 0, 2), (3, 0, 2), 4), ((0, 1), (0, 1), 4), ((-1, 1), (-1, 1), 0)]:
            self.assertEqual(self.at(PINWHEEL, x, y), [place])

    def test_sides_and_corners(self):
        self.assertEqual(self.at(PINWHEEL, (3, 0, 2), 1), [0, 4])
        self.assertEqual(self.at(PINWHEEL, 1, (3, 0, 2)), [3, 4])
        self.assertEqual(self.at(PINWHEEL, 1, 1), [0, 3, 4])
        self.assertEqual(self.at(PINWHEEL, 2, 1), [0, 1, 4])
        self.assertEqual(self.at(PINWHEEL, 2, 2), [1, 2, 4])
        self.assertEqual(self.at(PINWHEEL, 1, 2), [2, 3, 4])
        self.assertEqual(self.at(SIXTY, 1, 1), [0, 1, 10, 11])
        self.assertEqual(self.at(SIXTY, 9, 5), [48, 49, 58, 59])

    def test_the_floors_sides_and_corners(self):
        self.assertEqual(self.at(PINWHEEL, 0, 0), [0])
        self.assertEqual(self.at(PINWHEEL, 3, 0), [1])
        self.assertEqual(self.at(PINWHEEL, 3, 3), [2])
        self.assertEqual(self.at(PINWHEEL, 0, 3), [3])
        self.assertEqual(self.at(PINWHEEL, 2, 0), [0, 1])
        self.assertEqual(self.at(PINWHEEL, 0, 1), [0, 3])
        self.assertEqual(self.at(PINWHEEL, 3, 2), [1, 2])
        self.assertEqual(self.at(PINWHEEL, 1, 3), [2, 3])

    def test_beyond_the_floor(self):
        for x, y in [(4, 1), (1, 4), (4, 4), (-1, 1), (1, -1), (-1, -1), (4, -1), (-1, 4), ((3001, 0, 1000), 1),
                     (1, (3001, 0, 1000)), ((-1, 0, 1000), 1), (1, (-1, 0, 1000)), (FORTY, 1), (1, -FORTY),
                     ((1, -1), 1), (1, (0, -1)), ((0, 3), 1), (1, (2, 1)), ((-1, 0, TWO_HUNDRED), 0)]:
            self.assertEqual(self.at(PINWHEEL, x, y), [])

    def test_the_root_told_beside(self):
        for d in ROOTS:
            wanted = [1] if d < 4 else [2] if d < 9 else []
            laying = floor_of(3, 1, (0, 0, 1, 1), (1, 0, 1, 1), (2, 0, 1, 1))
            self.assertEqual(tiles_at(d, laying, (0, 1, 1), (1, 0, 2)), wanted)

    def test_rising_whatever_the_tiles_order(self):
        for turn in range(5):
            tiles = PINWHEEL[2][turn:] + PINWHEEL[2][:turn]
            found = self.at((PINWHEEL[0], PINWHEEL[1], tiles), 1, 1)
            self.assertEqual(found, sorted((place - turn) % 5 for place in (0, 3, 4)))

    def test_many(self):
        for seed in range(12):
            d = ROOTS[2 * seed]
            width, height, boxes = some_boxes(d, 400 + seed, 4 + 3 * seed)
            laying = laying_of(width, height, boxes)
            spots = [(x, y) for x, y, wide, high in boxes]
            spots += [(pair_plus(x, wide), pair_plus(y, high)) for x, y, wide, high in boxes]
            spots += [(pair_plus(x, (wide[0] / 2, wide[1] / 2)), y) for x, y, wide, high in boxes]
            spots += [(pair_plus(x, (wide[0] / 3, wide[1] / 3)), pair_plus(y, (high[0] / 2, high[1] / 2)))
                      for x, y, wide, high in boxes]
            spots += [(pair_less(x, width), y) for x, y, wide, high in boxes]
            for spot in spots[::2]:
                x, y = number_of(spot[0]), number_of(spot[1])
                wanted = [place for place, box in enumerate(boxes) if self.holds(d, box, x, y)]
                self.assertEqual(tiles_at(d, laying, x, y), wanted)

    def holds(self, d, box, x, y):
        left, lower = number_of(box[0]), number_of(box[1])
        right, upper = number_of(pair_plus(box[0], box[2])), number_of(pair_plus(box[1], box[3]))
        return (order(d, left, x) <= 0 and order(d, x, right) <= 0
                and order(d, lower, y) <= 0 and order(d, y, upper) <= 0)

    def test_a_new_list_each_time(self):
        first = self.at(PINWHEEL, 1, 1)
        second = self.at(PINWHEEL, 1, 1)
        self.assertIsInstance(first, list)
        self.assertIsNot(first, second)
        first.clear()
        self.assertEqual(second, [0, 3, 4])
        self.assertEqual(self.at(PINWHEEL, 1, 1), [0, 3, 4])
        beyond = self.at(PINWHEEL, 9, 9)
        beyond.append(1)
        self.assertEqual(self.at(PINWHEEL, 9, 9), [])


if __name__ == "__main__":
    unittest.main()
