"""Point 8: a laying put into a tile of another one."""

import copy
import unittest
from fractions import Fraction

from matefloors.errors import FloorError, NoFit, NoLaying, NoTile, TooMany
from matefloors.layings import is_by, is_laying, shapes_in, tiles_at
from matefloors.moving import mirrored, put_in, stretched, turned
from tests.samples import (FORTY, NO_LAYINGS, NO_NUMBERS, PINWHEEL, ROOT_PINWHEEL, ROOTS, SIXTY, floor_of, laying_of,
                           num, number_of, pair_over, pair_plus, pair_times, some_boxes, some_laying)

TWO = floor_of(2, 1, (0, 0, 1, 1), (1, 0, 1, 1))
SQUARE = floor_of(1, 1, (0, 0, 1, 1))
FOUR = floor_of(2, 2, (0, 0, 1, 1), (1, 0, 1, 1), (0, 1, 1, 1), (1, 1, 1, 1))


def row(many):
    """A floor of shape 1 over so many, of as many squares."""
    return floor_of(many, 1, *[(x, 0, 1, 1) for x in range(many)])


def column(many):
    """A square, cut into so many tiles one upon another."""
    return floor_of(1, 1, *[(0, Fraction(y, many), 1, Fraction(1, many)) for y in range(many)])


def boxes_put_in(d, boxes, place, width, inner):
    """The boxes with the inner ones, of a floor so wide, in the place of one."""
    x, y, wide, high = boxes[place]
    factor = pair_over(d, wide, width)
    fitted = [tuple(pair_times(d, part, factor) for part in box) for box in inner]
    moved = [(pair_plus(x, left), pair_plus(y, lower), w, h) for left, lower, w, h in fitted]
    return boxes[:place] + moved + boxes[place + 1:]


def some_pairs():
    """Roots, boxes of a floor, a place, and a floor of its tile's shape but of another size, with boxes."""
    for seed in range(30):
        d = ROOTS[seed % len(ROOTS)]
        width, height, boxes = some_boxes(d, 700 + seed, 1 + seed)
        place = (7 * seed) % len(boxes)
        shape = pair_over(d, boxes[place][3], boxes[place][2])
        wide = [(Fraction(1), Fraction(0)), (Fraction(2, 3), Fraction(1)), (Fraction(10 ** 9), Fraction(0))][seed % 3]
        high = pair_times(d, wide, shape)
        # The cuts of a square floor, each height times the shape wanted.
        square, tall, inner = some_boxes(d, 800 + seed, 1 + seed % 9)
        fit_x, fit_y = pair_over(d, wide, square), pair_over(d, high, tall)
        inner = [(pair_times(d, x, fit_x), pair_times(d, y, fit_y), pair_times(d, w, fit_x), pair_times(d, h, fit_y))
                 for x, y, w, h in inner]
        yield d, (width, height, boxes), place, (wide, high, inner)


class PutInTest(unittest.TestCase):
    def test_by_hand(self):
        half = Fraction(1, 2)
        small = [(0, 0, half, half), (half, 0, half, half), (0, half, half, half), (half, half, half, half)]
        self.assertEqual(put_in(2, TWO, 0, FOUR), floor_of(2, 1, *small, (1, 0, 1, 1)))
        self.assertEqual(put_in(2, TWO, 1, FOUR),
                         floor_of(2, 1, (0, 0, 1, 1), *[(1 + x, y, w, h) for x, y, w, h in small]))
        self.assertEqual(put_in(2, PINWHEEL, 1, floor_of(3, 6, (0, 3, 3, 3), (0, 0, 3, 3))), floor_of(
            3, 3, (0, 0, 2, 1), (2, 1, 1, 1), (2, 0, 1, 1), (1, 2, 2, 1), (0, 1, 1, 2), (1, 1, 1, 1)))

    def test_with_a_root(self):
        root = num(0, 1)
        floor = floor_of(num(1, 1), 1, (0, 0, 1, 1), (1, 0, root, 1))
        other = floor_of(2, root, (0, 0, 1, root), (1, 0, 1, root))
        self.assertEqual(put_in(2, floor, 1, other), floor_of(
            num(1, 1), 1, (0, 0, 1, 1), (1, 0, num(0, 1, 2), 1), (num(2, 1, 2), 0, num(0, 1, 2), 1)))

    def test_a_laying_of_one_tile(self):
        for d in ROOTS:
            for laying in (PINWHEEL, ROOT_PINWHEEL, TWO, SQUARE, SIXTY):
                for place, (x, y, width, height) in enumerate(laying[2]):
                    for size in (num(1), num(3, 0, 7), num(1, 1)):
                        one = stretched(d, (width, height, ((num(0), num(0), width, height),)), size)
                        self.assertEqual(put_in(d, laying, place, one), laying)

    def test_into_a_laying_of_one_tile(self):
        for d in ROOTS:
            self.assertEqual(put_in(d, SQUARE, 0, PINWHEEL), stretched(d, PINWHEEL, num(1, 0, 3)))
            width, height = ROOT_PINWHEEL[:2]
            self.assertEqual(put_in(d, (width, height, ((num(0), num(0), width, height),)), 0, ROOT_PINWHEEL),
                             ROOT_PINWHEEL)

    def test_of_another_size_at_all_places(self):
        for size in (num(1), num(5), num(1, 0, 9), num(FORTY, 0, 7), num(0, 1), num(3, 1, 4)):
            other = stretched(3, FOUR, size)
            for place in range(60):
                if place <= 56:
                    told = put_in(3, row(57), place, other)
                    self.assertEqual(told, put_in(3, row(57), place, FOUR))
                    self.assertEqual(told[2][:place] + told[2][place + 4:],
                                     row(57)[2][:place] + row(57)[2][place + 1:])

    def test_many(self):
        for d, (width, height, boxes), place, (wide, high, inner) in some_pairs():
            wanted = laying_of(width, height, boxes_put_in(d, boxes, place, wide, inner))
            laying, other = laying_of(width, height, boxes), laying_of(wide, high, inner)
            kept = copy.deepcopy((laying, other))
            told = put_in(d, laying, place, other)
            self.assertEqual(told, wanted)
            self.assertIs(is_laying(d, told), True)
            self.assertEqual((laying, other), kept)

    def test_first_and_last_place(self):
        for place in (0, 4):
            square = floor_of(1, 1, (0, 0, 1, 1))
            self.assertEqual(put_in(2, row(5), place, square), row(5))
            told = put_in(2, row(5), place, column(3))
            third = Fraction(1, 3)
            inner = [(place, y * third, 1, third) for y in range(3)]
            others = [(x, 0, 1, 1) for x in range(5) if x != place]
            self.assertEqual(told, floor_of(5, 1, *others[:place], *inner, *others[place:]))

    def test_into_itself(self):
        told = put_in(2, PINWHEEL, 4, PINWHEEL)
        self.assertEqual(len(told[2]), 9)
        self.assertEqual(told[2][4:], tuple(
            tuple(num(part, 0, 3) for part in tile)
            for tile in [(3, 3, 2, 1), (5, 3, 1, 2), (4, 5, 2, 1), (3, 4, 1, 2), (4, 4, 1, 1)]))
        self.assertIs(is_laying(2, told), True)

    def test_just_sixty_and_sixty_one(self):
        for many in (1, 2, 30, 59, 60):
            self.assertEqual(len(put_in(2, row(many), many - 1, column(61 - many))[2]), 60)
            if many > 1:
                with self.assertRaises(TooMany):
                    put_in(2, row(many), 0, column(62 - many))
                with self.assertRaises(TooMany):
                    put_in(2, row(many), many - 1, column(60))
        self.assertEqual(put_in(2, SIXTY, 59, SQUARE), SIXTY)
        with self.assertRaises(TooMany):
            put_in(2, SIXTY, 59, column(2))

    def test_again_and_again(self):
        laying = SQUARE
        for step in range(19):
            laying = put_in(2, laying, 3 * step, FOUR)
        self.assertEqual(len(laying[2]), 58)
        tiny = 1 - Fraction(1, 2 ** 19)
        self.assertEqual(laying[2][-1], floor_of(1, 1, (tiny, tiny, 1 - tiny, 1 - tiny))[2][0])
        self.assertIs(is_laying(2, laying), True)
        self.assertIs(is_by(2, laying, (num(1),)), True)


class AlongTest(unittest.TestCase):
    """What is put in and what is moved go together."""

    def test_turned_mirrored_stretched(self):
        for d, floor, place, inner in some_pairs():
            laying, other = laying_of(*floor), laying_of(*inner)
            told = put_in(d, laying, place, other)
            self.assertEqual(turned(d, told), put_in(d, turned(d, laying), place, turned(d, other)))
            self.assertEqual(mirrored(d, told), put_in(d, mirrored(d, laying), place, mirrored(d, other)))
            for factor in (num(2), num(1, 0, 3), num(1, 2, 3)):
                self.assertEqual(stretched(d, told, factor), put_in(d, stretched(d, laying, factor), place, other))
                self.assertEqual(told, put_in(d, laying, place, stretched(d, other, factor)))

    def test_by_the_same_kinds(self):
        for d, floor, place, inner in some_pairs():
            laying, other = laying_of(*floor), laying_of(*inner)
            shapes = shapes_in(d, laying)
            told = put_in(d, laying, place, other)
            self.assertEqual(shapes_in(d, told), shapes[:place] + shapes_in(d, other) + shapes[place + 1:])
        kinds = (num(1), num(2))
        for place in range(4):
            told = put_in(2, PINWHEEL, place, TWO if place % 2 == 0 else turned(2, TWO))
            self.assertIs(is_by(2, told, kinds), True)
            self.assertIs(is_by(2, told, (num(1), num(3))), False)

    def test_the_tiles_at_the_spot_that_goes_along(self):
        for d, floor, place, (wide, high, inner) in list(some_pairs())[::2]:
            boxes = floor[2]
            laying, other = laying_of(*floor), laying_of(wide, high, inner)
            told = put_in(d, laying, place, other)
            corner_x, corner_y, tile_width, tile_height = boxes[place]
            factor = pair_over(d, tile_width, wide)
            for x, y, w, h in inner:
                for spot in [(pair_plus(x, (w[0] / 2, w[1] / 2)), pair_plus(y, (h[0] / 3, h[1] / 3))), (x, y),
                             (pair_plus(x, w), pair_plus(y, h))]:
                    along = [number_of(pair_plus(corner, pair_times(d, part, factor)))
                             for corner, part in zip((corner_x, corner_y), spot)]
                    within = tiles_at(d, other, *[number_of(part) for part in spot])
                    around = [at if at < place else at + len(inner) - 1
                              for at in tiles_at(d, laying, *along) if at != place]
                    self.assertEqual(tiles_at(d, told, *along), sorted([place + at for at in within] + around))
            for at, (x, y, w, h) in enumerate(boxes):
                if at != place:
                    middle = [number_of(pair_plus(x, (w[0] / 2, w[1] / 2))),
                              number_of(pair_plus(y, (h[0] / 2, h[1] / 2)))]
                    self.assertEqual(tiles_at(d, told, *middle), [at if at < place else at + len(inner) - 1])


class RefusalsTest(unittest.TestCase):
    def refused(self, error, laying, place, other):
        kept = copy.deepcopy((laying, place, other))
        with self.assertRaises(FloorError) as taken:
            put_in(2, laying, place, other)
        self.assertIs(taken.exception.__class__, error)
        self.assertEqual((laying, place, other), kept)
        self.assertEqual(put_in(2, TWO, 1, SQUARE), TWO)

    def test_no_laying(self):
        for thing in NO_LAYINGS:
            with self.subTest(str(thing)[:60]):
                self.refused(NoLaying, thing, 0, SQUARE)
                self.refused(NoLaying, TWO, 0, thing)
                self.refused(NoLaying, thing, 0, thing)

    def test_no_tile(self):
        odd = [thing for thing in NO_NUMBERS if thing is True or thing is False or thing not in (0, 1)]
        self.assertIn(True, odd)
        for thing in odd + [2, 3, -1, -2, 60, FORTY, -FORTY, (0,), [0], "0", "1", (0, 0, 1), PINWHEEL]:
            with self.subTest(str(thing)[:60]):
                self.refused(NoTile, TWO, thing, SQUARE)
        for many in (1, 2, 59, 60):
            self.refused(NoTile, row(many), many, SQUARE)
            self.refused(NoTile, row(many), -1, SQUARE)
            self.refused(NoTile, row(many), -many, SQUARE)
            self.assertEqual(put_in(2, row(many), many - 1, SQUARE), row(many))

    def test_no_fit(self):
        self.refused(NoFit, TWO, 0, TWO)
        self.refused(NoFit, PINWHEEL, 0, turned(2, TWO))
        self.refused(NoFit, PINWHEEL, 1, TWO)
        self.refused(NoFit, TWO, 0, floor_of(1, num(0, 1), (0, 0, 1, num(0, 1))))
        hair = num(FORTY + 1, 0, FORTY)
        self.refused(NoFit, TWO, 0, floor_of(1, hair, (0, 0, 1, hair)))
        root_shape = floor_of(1, num(2, 1), (0, 0, 1, num(2, 1)))
        mate_shape = floor_of(1, num(2, -1), (0, 0, 1, num(2, -1)))
        self.refused(NoFit, root_shape, 0, mate_shape)
        for d in ROOTS:
            with self.assertRaises(NoFit):
                put_in(d, some_laying(d, 5, 9), 3, some_laying(d, 6, 9))

    def test_the_first_where_two_are_due(self):
        tall = floor_of(1, 60, *[(0, y, 1, 1) for y in range(60)])
        for thing in NO_LAYINGS[::4]:
            for place in (0, 2, -1, True, None, "0", (0,)):
                self.refused(NoLaying, thing, place, SQUARE)
                self.refused(NoLaying, TWO, place, thing)
            self.refused(NoLaying, SIXTY, 0, thing)
        for place in (2, -1, True, False, None, "0", (0,), [0]):
            self.refused(NoTile, TWO, place, TWO)
            self.refused(NoTile, TWO, place, column(60))
            self.refused(NoTile, TWO, place, tall)
        for place in (0, 1):
            self.refused(NoFit, TWO, place, tall)
        self.refused(NoFit, SIXTY, 59, TWO)
        self.refused(TooMany, TWO, 1, column(60))


if __name__ == "__main__":
    unittest.main()
