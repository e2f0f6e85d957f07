"""Points 3 and 13: the tile at a spot."""

import copy
import random
import unittest
from fractions import Fraction

from matefloors.errors import FloorError, NoKinds, NoPlan, NoSpot
from matefloors.plans import count_of, shape_of
from matefloors.spots import laid_out, tile_at
from tests.bar_samples import UNIT
from tests.lay_samples import (holding, number_less, number_over, number_plus, number_times, rank, some_spot,
                               tiles_by_words, tiny)
from tests.plan_samples import A, B, C, SORTS, chain_of, some_plan, tiles_by_sums
from tests.samples import FORTY, NO_KINDS, NO_NUMBERS, ROOTS, num, number_of, pair_of, pair_over
from tests.test_plans import NO_PLANS, kinds_for

MILLION = 10 ** 6
SMALL_SORTS = [plan for plan in SORTS if tiles_by_sums(plan) <= 60] + [
    ("turn", ("turn", ("upon", (A, ("grid", 2, 1, A), ("turn", A))))),
    ("turn", ("grid", 2, 3, ("turn", ("beside", (A, ("turn", ("upon", (A, A)))))))),
    ("turn", ("turn", ("turn", ("beside", (A, ("upon", (A, ("turn", A), A))))))),
    ("turn", ("turn", ("turn", ("grid", 3, 2, ("beside", (A, A, A)))))),
    ("turn", ("turn", ("turn", ("turn", ("upon", (A, ("grid", 3, 2, A))))))),
    ("grid", 2, 3, ("grid", 3, 1, ("grid", 1, 2, ("turn", A)))),
    ("upon", (("turn", ("upon", (A, ("turn", ("upon", (A, A)))))), ("turn", ("beside", (A, ("turn", A)))))),
    ("beside", (("turn", ("turn", ("beside", (A, ("upon", (A, A)))))), ("turn", ("grid", 1, 2, ("upon", (A, A)))))),
]


def small_plans(many):
    """Plans at random of sixty tiles or fewer, each with a root and kinds."""
    seed = 0
    while many:
        seed += 1
        d = ROOTS[seed % len(ROOTS)]
        kinds = kinds_for(d)[seed % 11]
        plan = some_plan(seed, len(kinds), most=40, deepest=9)
        if 2 <= tiles_by_sums(plan) <= 60:
            many -= 1
            yield d, kinds, plan


class TileAtTest(unittest.TestCase):
    def check(self, d, kinds, plan, x, y, tiles):
        """Told is the one tile of the laying that holds the spot, made of a kind."""
        kept = copy.deepcopy((kinds, plan, x, y))
        told = tile_at(d, kinds, plan, x, y)
        self.assertEqual([told], holding(d, tiles, x, y))
        self.assertIs(told.__class__, tuple)
        self.assertIs(told[5].__class__, bool)
        self.assertIs(told[4].__class__, int)
        shape = number_over(d, told[3], told[2])
        kind = kinds[told[4]]
        self.assertEqual(shape, number_of(pair_over(d, UNIT, pair_of(kind))) if told[5] else kind)
        self.assertEqual((kinds, plan, x, y), kept)
        return told

    def check_all(self, d, kinds, plan, seed=0):
        """At spots of all sorts in each tile of the laying."""
        chance = random.Random(seed)
        tiles = tiles_by_words(d, kinds, plan)
        shape = shape_of(d, kinds, plan)
        for tile in tiles:
            for x, y in some_spot(chance, d, tile):
                self.assertEqual(self.check(d, kinds, plan, x, y, tiles), tile)
            # On the right and upper sides is the next tile, where there is one.
            right, top = number_plus(tile[0], tile[2]), number_plus(tile[1], tile[3])
            for x, y in [(right, tile[1]), (tile[0], top), (right, top)]:
                if rank(d, x, num(1)) < 0 and rank(d, y, shape) < 0:
                    self.assertNotEqual(self.check(d, kinds, plan, x, y, tiles), tile)
                else:
                    with self.assertRaises(NoSpot):
                        tile_at(d, kinds, plan, x, y)

    def told(self, d, kinds, plan, spot, wanted):
        self.assertEqual(tile_at(d, kinds, plan, *spot), wanted)

    def test_a_kind(self):
        kinds = (num(1, 1), num(3, 0, 2), num(5, -1, 7))
        for plan, kind in zip((A, B, C), kinds):
            for spot in [(num(0), num(0)), (num(1, 0, 2), num(0)), (num(99, 0, 100), num(1, 0, 9))]:
                self.told(2, kinds, plan, spot, (num(0), num(0), num(1), kind, plan[1], False))

    def test_turn(self):
        self.told(2, (num(3, 0, 2),), ("turn", A), (num(0), num(0)), (num(0), num(0), num(1), num(2, 0, 3), 0, True))
        self.told(2, (num(1, 1),), ("turn", A), (num(0), num(0)), (num(0), num(0), num(1), num(-1, 1), 0, True))
        self.told(2, (num(1, 1),), ("turn", ("turn", A)), (num(0), num(2)),
                  (num(0), num(0), num(1), num(1, 1), 0, False))

    def test_upon_and_beside(self):
        kinds = (num(1), num(2))
        self.told(2, kinds, ("upon", (A, B)), (num(0), num(99, 0, 100)), (num(0), num(0), num(1), num(1), 0, False))
        self.told(2, kinds, ("upon", (A, B)), (num(0), num(1)), (num(0), num(1), num(1), num(2), 1, False))
        plan, third = ("beside", (A, B)), num(2, 0, 3)
        self.told(2, kinds, plan, (num(0), num(0)), (num(0), num(0), third, third, 0, False))
        self.told(2, kinds, plan, (third, num(1, 0, 2)), (third, num(0), num(1, 0, 3), third, 1, False))

    def test_turned_plans_by_hand(self):
        kinds = (num(1), num(2))
        # A square below a tile of 1 by 2: turned, the square is on the right, of a floor of 3 by 1.
        plan, third = ("turn", ("upon", (A, B))), num(1, 0, 3)
        self.told(2, kinds, plan, (num(0), num(0)), (num(0), num(0), num(2, 0, 3), third, 1, True))
        self.told(2, kinds, plan, (num(2, 0, 3), num(0)), (num(2, 0, 3), num(0), third, third, 0, True))
        # A square on the left of it becomes the lower one.
        plan, upper = ("turn", ("beside", (A, B))), num(1, 0, 2)
        self.told(2, kinds, plan, (num(0), num(0)), (num(0), num(0), num(1), num(1), 0, True))
        self.told(2, kinds, plan, (num(0), num(1)), (num(0), num(1), num(1), upper, 1, True))
        # Twice turned it is upside down, the square at the upper end.
        plan = ("turn", ("turn", ("upon", (A, B))))
        self.told(2, kinds, plan, (num(0), num(0)), (num(0), num(0), num(1), num(2), 1, False))
        self.told(2, kinds, plan, (num(0), num(2)), (num(0), num(2), num(1), num(1), 0, False))

    def test_each_sort(self):
        for d in ROOTS[::4]:
            for kinds in kinds_for(d)[::2]:
                for plan in SMALL_SORTS:
                    if tiles_by_sums(plan) <= 16:
                        self.check_all(d, kinds, plan, d)

    def test_turned_within_turned(self):
        for sort in ("turn", "upon", "beside"):
            for depth in (2, 5, 12):
                self.check_all(5, (num(3, 1, 2),), chain_of(depth, sort))
        plan = A
        for step in range(7):
            plan = ("turn", ("upon" if step % 4 < 2 else "beside", (plan, A))) if step % 2 else ("turn", plan)
            self.check_all(5, (num(3, 1, 2),), plan)

    def test_many(self):
        for d, kinds, plan in small_plans(40):
            self.check_all(d, kinds, plan, d)

    def test_of_the_laying_that_is_told(self):
        for d, kinds, plan in small_plans(25):
            laying = laid_out(d, kinds, plan, num(1))
            for tile in laying[2]:
                told = tile_at(d, kinds, plan, tile[0], tile[1])
                self.assertEqual(told[:4], tile)
                self.assertEqual(holding(d, laying[2], tile[0], tile[1]), [tile])

    def test_ends_of_the_floor(self):
        for d in ROOTS:
            small = tiny(d)
            for kinds in kinds_for(d)[3:6]:
                for plan in SMALL_SORTS[:9]:
                    shape = shape_of(d, kinds, plan)
                    tiles = tiles_by_words(d, kinds, plan)
                    far, top = number_less(num(1), small), number_less(shape, small)
                    near_far = num(FORTY - 1, 0, FORTY)
                    near_top = number_times(d, shape, near_far)
                    for x, y in [(num(0), num(0)), (far, num(0)), (num(0), top), (far, top), (small, small),
                                 (near_far, near_top), (near_far, small)]:
                        self.check(d, kinds, plan, x, y, tiles)
                    for x, y in [(num(1), num(0)), (num(0), shape), (num(1), shape), (number_plus(num(1), small), top),
                                 (far, number_plus(shape, small)), (number_less(num(0), small), num(0)),
                                 (num(0), number_less(num(0), small))]:
                        with self.assertRaises(NoSpot):
                            tile_at(d, kinds, plan, x, y)

    def test_just_beside_a_side(self):
        for d in ROOTS[::3]:
            small = tiny(d)
            for plan in [("upon", (A, A)), ("beside", (A, A)), ("grid", 2, 2, A), ("turn", ("upon", (A, ("turn", A)))),
                         ("turn", ("turn", ("beside", (A, ("turn", A)))))]:
                kinds = (num(1, 1, 3),)
                tiles = tiles_by_words(d, kinds, plan)
                for tile in tiles:
                    for x in (tile[0], number_plus(tile[0], tile[2])):
                        for y in (tile[1], number_plus(tile[1], tile[3])):
                            for at, up in [(number_plus(x, small), number_less(y, small)), (number_less(x, small), y),
                                           (x, number_less(y, small)), (number_plus(x, small), number_plus(y, small))]:
                                if holding(d, tiles, at, up):
                                    self.check(d, kinds, plan, at, up, tiles)


class GreatGridsTest(unittest.TestCase):
    def test_a_million_columns_and_rows(self):
        kinds = (num(0, 1),)
        plan = ("grid", MILLION, MILLION, A)
        wide, high = num(1, 0, MILLION), num(0, 1, MILLION)
        for column, row in [(0, 0), (1, 0), (0, 1), (123456, 654321), (MILLION - 1, MILLION - 1)]:
            left, bottom = num(column, 0, MILLION), num(0, row, MILLION)
            wanted = (left, bottom, wide, high, 0, False)
            self.assertEqual(tile_at(2, kinds, plan, left, bottom), wanted)
            inner = (number_plus(left, num(1, 0, 2 * MILLION)), number_plus(bottom, num(1, 0, MILLION)))
            self.assertEqual(tile_at(2, kinds, plan, *inner), wanted)
            near = (number_plus(left, number_less(wide, tiny(2))), number_plus(bottom, number_less(high, tiny(2))))
            self.assertEqual(tile_at(2, kinds, plan, *near), wanted)

    def test_turned(self):
        kinds = (num(0, 1),)
        # Of a shape 7 times the kind over a million; turned, the columns are rows, a million of them.
        plan = ("turn", ("grid", MILLION, 7, A))
        shape = shape_of(2, kinds, plan)
        wide, high = num(1, 0, 7), number_times(2, shape, num(1, 0, MILLION))
        for column, row in [(0, 0), (6, 0), (3, 999), (6, MILLION - 1)]:
            left, bottom = num(column, 0, 7), number_times(2, high, num(row))
            self.assertEqual(tile_at(2, kinds, plan, left, bottom), (left, bottom, wide, high, 0, True))

    def test_grids_within_grids(self):
        kinds = (num(3, 0, 2), num(1, 1))
        inner = ("upon", (A, ("turn", B)))
        plan, many = inner, 1
        for depth in range(8):
            plan, many = ("grid", MILLION, MILLION, plan), many * MILLION
        tall = shape_of(2, kinds, inner)
        self.assertEqual(shape_of(2, kinds, plan), tall)
        unit = num(1, 0, many)
        for column, row in [(0, 0), (1, many - 1), (many // 3, many // 7), (many - 1, many - 1)]:
            left, bottom = num(column, 0, many), number_times(2, tall, num(row, 0, many))
            lower = (left, bottom, unit, number_times(2, kinds[0], unit), 0, False)
            self.assertEqual(tile_at(2, kinds, plan, left, bottom), lower)
            top = number_plus(bottom, lower[3])
            upper = (left, top, unit, number_times(2, num(-1, 1), unit), 1, True)
            self.assertEqual(tile_at(2, kinds, plan, left, top), upper)
            self.assertEqual(tile_at(2, kinds, plan, left, number_less(top, num(1, 0, many ** 2))), lower)

    def test_great_grids_of_all_roots(self):
        chance = random.Random(7)
        for d in ROOTS:
            kinds = kinds_for(d)[6]
            plan = ("turn", ("beside", (("grid", MILLION, 3, ("turn", B)), ("grid", FORTY, MILLION + 1, A), C)))
            shape = shape_of(d, kinds, plan)
            for turn in range(6):
                x = num(chance.randrange(10 ** 20), 0, 10 ** 20)
                y = number_times(d, shape, num(chance.randrange(10 ** 20), 0, 10 ** 20))
                told = tile_at(d, kinds, plan, x, y)
                self.assertEqual(holding(d, [told], x, y), [told])
                self.assertEqual(tile_at(d, kinds, plan, told[0], told[1]), told)
                shape_told = number_over(d, told[3], told[2])
                kind = kinds[told[4]]
                self.assertEqual(shape_told, number_over(d, num(1), kind) if told[5] else kind)
        self.assertGreater(count_of(plan), FORTY)


class RefusalsTest(unittest.TestCase):
    def refused(self, error, *things):
        kept = copy.deepcopy(things)
        with self.assertRaises(FloorError) as taken:
            tile_at(2, *things)
        self.assertIs(taken.exception.__class__, error)
        self.assertEqual(things, kept)
        self.assertEqual(tile_at(2, (num(1),), ("turn", A), num(0), num(0)),
                         (num(0), num(0), num(1), num(1), 0, True))

    def test_no_kinds(self):
        for kinds in NO_KINDS:
            with self.subTest(str(kinds)[:60]):
                self.refused(NoKinds, kinds, A, num(0), num(0))

    def test_no_plan(self):
        for plan in NO_PLANS + [("turn", B), C]:
            with self.subTest(str(plan)[:60]):
                self.refused(NoPlan, (num(1),), plan, num(0), num(0))
        self.refused(NoPlan, (num(1), num(2)), ("upon", (A, C)), num(0), num(0))

    def test_no_spot(self):
        kinds, plan = (num(1, 1),), ("upon", (A, A))
        for thing in NO_NUMBERS + [num(-1), num(0, -1), num(1, -1), num(-1, 0, FORTY), num(9, 9), num(FORTY)]:
            with self.subTest(str(thing)[:60]):
                self.refused(NoSpot, kinds, plan, thing, num(0))
                self.refused(NoSpot, kinds, plan, num(0), thing)
                self.refused(NoSpot, kinds, plan, thing, thing)
        for x, y in [(num(1), num(0)), (num(0), num(2, 2)), (num(3, 0, 2), num(1)), (num(0, 1), num(0)),
                     (num(0), num(5))]:
            self.refused(NoSpot, kinds, plan, x, y)
        # The shape is above 1, so a y of 1 is a spot, and an x of 1 none.
        self.assertEqual(tile_at(2, kinds, plan, num(0), num(1))[:2], (num(0), num(0)))

    def test_the_first_of_two(self):
        for kinds in NO_KINDS[::5]:
            for plan in NO_PLANS[::9]:
                self.refused(NoKinds, kinds, plan, num(0), num(0))
                self.refused(NoKinds, kinds, plan, None, num(0))
            for spot in [(num(1), num(0)), (None, []), (num(0), num(-1))]:
                self.refused(NoKinds, kinds, A, *spot)
        for plan in NO_PLANS[::5]:
            for spot in [(num(1), num(0)), (None, []), (num(0), num(-1)), (num(0), True)]:
                self.refused(NoPlan, (num(1),), plan, *spot)


class FractionTest(unittest.TestCase):
    def test_the_same_as_with_fractions_alone(self):
        # Squares in a grid of 5 by 3, found by whole numbers.
        plan = ("grid", 5, 3, A)
        for across in range(25):
            for upward in range(15):
                x, y = num(across, 0, 25), num(upward, 0, 25)
                fifth = Fraction(1, 5)
                left, bottom = (across // 5) * fifth, (upward // 5) * fifth
                self.assertEqual(tile_at(3, (num(1),), plan, x, y),
                                 (number_of((left, Fraction(0))), number_of((bottom, Fraction(0))), num(1, 0, 5),
                                  num(1, 0, 5), 0, False))


if __name__ == "__main__":
    unittest.main()
