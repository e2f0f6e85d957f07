"""Points 3 and 13: the laying of a told width by a plan."""

import copy
import unittest

from matefloors.errors import FloorError, NoKinds, NoNumber, NoPlan, TooMany
from matefloors.layings import is_by, is_laying, shapes_in
from matefloors.moving import stretched, turned
from matefloors.plans import shape_of
from matefloors.spots import laid_out
from tests.lay_samples import number_over, number_times, tiles_by_words
from tests.plan_samples import A, B, C, chain_of, some_plan, tiles_by_sums
from tests.samples import FORTY, NO_KINDS, NO_NUMBERS, NOT_ABOVE, ROOTS, floor_of, num
from tests.test_plans import NO_PLANS, kinds_for
from tests.test_tile_at import SMALL_SORTS, small_plans

GREAT = 10 ** 59 + 7
WIDTHS = [num(1), num(2), num(1, 0, 3), num(0, 1), num(7, 1, 5), num(6, -1), num(FORTY, 3, 7)]


class LaidOutTest(unittest.TestCase):
    def check(self, d, kinds, plan, width):
        """To the number, in order; a laying by the kinds, of the plan's shape."""
        kept = copy.deepcopy((kinds, plan, width))
        laying = laid_out(d, kinds, plan, width)
        wanted = [tuple(number_times(d, part, width) for part in tile[:4]) for tile in tiles_by_words(d, kinds, plan)]
        self.assertEqual(laying, (width, number_times(d, shape_of(d, kinds, plan), width), tuple(wanted)))
        self.assertIs(laying.__class__, tuple)
        self.assertIs(laying[2].__class__, tuple)
        self.assertTrue(all(tile.__class__ is tuple for tile in laying[2]))
        self.assertEqual((kinds, plan, width), kept)
        return laying

    def told(self, kinds, plan, width, wanted):
        self.assertEqual(laid_out(2, kinds, plan, width), wanted)

    def test_a_kind(self):
        kinds = (num(2), num(3), num(0, 1))
        self.told(kinds, A, num(1), floor_of(1, 2, (0, 0, 1, 2)))
        self.told(kinds, B, num(5), floor_of(5, 15, (0, 0, 5, 15)))
        self.told(kinds, C, num(0, 1), floor_of((0, 1, 1), 2, (0, 0, (0, 1, 1), 2)))

    def test_turn(self):
        kinds = (num(2), num(3))
        self.told(kinds, ("turn", A), num(2), floor_of(2, 1, (0, 0, 2, 1)))
        # Below becomes right; the plan's order stays.
        self.told(kinds, ("turn", ("upon", (A, B))), num(5), floor_of(5, 1, (3, 0, 2, 1), (0, 0, 3, 1)))
        # Left becomes below.
        self.told(kinds, ("turn", ("beside", (A, B))), num(6), floor_of(6, 5, (0, 0, 6, 3), (0, 3, 6, 2)))
        self.told(kinds, ("turn", ("turn", ("upon", (A, B)))), num(1), floor_of(1, 5, (0, 3, 1, 2), (0, 0, 1, 3)))
        self.told(kinds, ("turn", ("turn", ("turn", ("upon", (A, B))))), num(5),
                  floor_of(5, 1, (0, 0, 2, 1), (2, 0, 3, 1)))
        self.told(kinds, ("turn", ("turn", ("turn", ("beside", (A, B))))), num(6),
                  floor_of(6, 5, (0, 2, 6, 3), (0, 0, 6, 2)))

    def test_upon_and_beside(self):
        kinds = (num(1), num(2))
        self.told(kinds, ("upon", (A, B, A)), num(1), floor_of(1, 4, (0, 0, 1, 1), (0, 1, 1, 2), (0, 3, 1, 1)))
        self.told(kinds, ("beside", (A, B, A)), num(5), floor_of(5, 2, (0, 0, 2, 2), (2, 0, 1, 2), (3, 0, 2, 2)))
        self.told(kinds, ("beside", (A, ("upon", (A, A)))), num(3),
                  floor_of(3, 2, (0, 0, 2, 2), (2, 0, 1, 1), (2, 1, 1, 1)))

    def test_grids_row_by_row(self):
        self.told((num(1),), ("grid", 3, 2, A), num(3),
                  floor_of(3, 2, *[(x, y, 1, 1) for y in range(2) for x in range(3)]))
        self.told((num(2),), ("grid", 2, 2, A), num(2),
                  floor_of(2, 4, (0, 0, 1, 2), (1, 0, 1, 2), (0, 2, 1, 2), (1, 2, 1, 2)))
        # Turned: (x, y) of 3 columns and 2 rows becomes (1 - y, x).
        self.told((num(1),), ("turn", ("grid", 3, 2, A)), num(2),
                  floor_of(2, 3, *[(1 - y, x, 1, 1) for y in range(2) for x in range(3)]))
        self.told((num(1),), ("turn", ("turn", ("grid", 3, 2, A))), num(3),
                  floor_of(3, 2, *[(2 - x, 1 - y, 1, 1) for y in range(2) for x in range(3)]))
        self.told((num(1),), ("turn", ("turn", ("turn", ("grid", 3, 2, A)))), num(2),
                  floor_of(2, 3, *[(y, 2 - x, 1, 1) for y in range(2) for x in range(3)]))

    def test_cells_of_several_tiles(self):
        self.told((num(1),), ("grid", 2, 2, ("upon", (A, A))), num(2), floor_of(
            2, 4, (0, 0, 1, 1), (0, 1, 1, 1), (1, 0, 1, 1), (1, 1, 1, 1), (0, 2, 1, 1), (0, 3, 1, 1), (1, 2, 1, 1),
            (1, 3, 1, 1)))

    def test_each_sort(self):
        for d in ROOTS[::3]:
            for kinds in kinds_for(d):
                for plan in SMALL_SORTS:
                    self.check(d, kinds, plan, WIDTHS[d % len(WIDTHS)])

    def test_many(self):
        for at, (d, kinds, plan) in enumerate(small_plans(120)):
            laying = self.check(d, kinds, plan, WIDTHS[at % 6 if d < 30 else 0])
            if at % 3 == 0:
                self.assertIs(is_laying(d, laying), True)
                self.assertIs(is_by(d, laying, kinds), True)
                self.assertEqual(number_over(d, laying[1], laying[0]), shape_of(d, kinds, plan))

    def test_turned_as_layings_are(self):
        for at, (d, kinds, plan) in enumerate(small_plans(40)):
            laying = laid_out(d, kinds, plan, num(1))
            over_it = turned(d, laying)
            self.assertEqual(laid_out(d, kinds, ("turn", plan), laying[1]), over_it)
            self.assertEqual(laid_out(d, kinds, plan, WIDTHS[at % 5]), stretched(d, laying, WIDTHS[at % 5]))

    def test_twelve_within_one_another(self):
        for d in (2, 13, 30):
            for sort in ("turn", "upon", "beside"):
                self.check(d, (num(3, 1, 2), num(5)), chain_of(12, sort, B), num(1))

    def test_the_tiles_are_of_the_kinds_in_the_plans_order(self):
        kinds = (num(2), num(0, 1), num(3, 1))
        plan = ("beside", (("upon", (A, ("turn", B))), C, ("grid", 2, 1, ("turn", C))))
        self.assertEqual(shapes_in(2, laid_out(2, kinds, plan, num(1))),
                         [num(2), num(0, 1, 2), num(3, 1), num(3, -1, 7), num(3, -1, 7)])


class SixtyTest(unittest.TestCase):
    def test_sixty_tiles(self):
        for plan in [("grid", 10, 6, A), ("grid", 60, 1, A), ("turn", ("grid", 1, 60, A)),
                     ("upon", (("grid", 7, 7, A), ("grid", 11, 1, A))), ("grid", 6, 5, ("beside", (A, A)))]:
            laying = laid_out(3, (num(1, 1),), plan, num(2))
            self.assertEqual(len(laying[2]), 60)
            self.assertIs(is_laying(3, laying), True)
            self.assertIs(is_by(3, laying, (num(1, 1),)), True)

    def test_sixty_one_tiles(self):
        for plan in [("grid", 61, 1, A), ("turn", ("grid", 1, 61, A)), ("upon", (("grid", 60, 1, A), A)),
                     ("beside", (A, ("grid", 6, 5, ("upon", (A, A))))), ("grid", 31, 2, A),
                     ("grid", 2, 2, ("grid", 4, 4, A))]:
            with self.assertRaises(TooMany):
                laid_out(3, (num(1, 1),), plan, num(2))

    def test_great_grids_are_quickly_refused(self):
        plan = ("upon", (A, A))
        for depth in range(10):
            plan = ("grid", GREAT, FORTY, plan)
            with self.assertRaises(TooMany):
                laid_out(3, (num(1, 1),), plan, num(2))

    def test_all_by_counts(self):
        tried = {True: 0, False: 0}
        for seed in range(120):
            plan = some_plan(seed, 1, most=30, deepest=6)
            few = tiles_by_sums(plan) <= 60
            tried[few] += 1
            if few:
                self.assertEqual(len(laid_out(2, (num(1, 1),), plan, num(1))[2]), tiles_by_sums(plan))
            else:
                with self.assertRaises(TooMany):
                    laid_out(2, (num(1, 1),), plan, num(1))
        self.assertTrue(min(tried.values()) > 5, tried)


class RefusalsTest(unittest.TestCase):
    def refused(self, error, *things):
        kept = copy.deepcopy(things)
        with self.assertRaises(FloorError) as taken:
            laid_out(2, *things)
        self.assertIs(taken.exception.__class__, error)
        self.assertEqual(things, kept)
        self.assertEqual(laid_out(2, (num(1),), A, num(1)), floor_of(1, 1, (0, 0, 1, 1)))

    def test_no_kinds(self):
        for kinds in NO_KINDS:
            with self.subTest(str(kinds)[:60]):
                self.refused(NoKinds, kinds, A, num(1))

    def test_no_plan(self):
        for plan in NO_PLANS + [("turn", B), C]:
            with self.subTest(str(plan)[:60]):
                self.refused(NoPlan, (num(1),), plan, num(1))
        self.refused(NoPlan, (num(1), num(2)), ("upon", (A, C)), num(1))

    def test_no_width(self):
        for width in NO_NUMBERS + NOT_ABOVE:
            with self.subTest(str(width)[:60]):
                self.refused(NoNumber, (num(1),), ("upon", (A, A)), width)

    def test_the_first_of_two(self):
        many = ("grid", 61, 1, A)
        for kinds in NO_KINDS[::4]:
            self.refused(NoKinds, kinds, many, num(1))
            self.refused(NoKinds, kinds, A, num(-1))
            self.refused(NoKinds, kinds, ("kind", 3), None)
        for plan in NO_PLANS[::4]:
            self.refused(NoPlan, (num(1),), plan, num(0))
            self.refused(NoPlan, (num(1),), plan, [])
        self.refused(NoPlan, (num(1),), ("grid", 61, 1, B), None)
        for width in NO_NUMBERS + NOT_ABOVE:
            self.refused(NoNumber, (num(1),), many, width)
            self.refused(NoNumber, (num(1),), ("grid", GREAT, GREAT, A), width)
        self.refused(TooMany, (num(1),), many, num(1))


if __name__ == "__main__":
    unittest.main()
