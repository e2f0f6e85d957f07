"""Points 3, 12 and 13: a plan's shape, what it makes of the kinds' mates, how many tiles it has."""

import copy
import unittest

from matefloors.errors import FloorError, NoKinds, NoPlan
from matefloors.plans import count_of, mate_shape, shape_of
from tests.bar_samples import UNIT, mate_sign, some_shapes
from tests.plan_samples import (A, B, C, SORTS, all_paths, at_path, chain_of, plan_of, put_at, shape_by_pairs, size_of,
                                some_plan, tiles_by_sums)
from tests.samples import (FORTY, NO_KINDS, NO_NUMBERS, PINWHEEL, ROOTS, num, number_of, pair_of, pair_over,
                           pair_plus)

GREAT = 10 ** 59 + 7
NO_PLANS = NO_NUMBERS + [
    num(1), num(0, 1), PINWHEEL, "kind", ("kind",), ["kind", 0], ("kind", -1), ("kind", 3), ("kind", True),
    ("kind", 0, 0), ("turn", 0), ("turn",), ("turn", A, A), ("turn", [A]), ("upon", (A,)), ("upon", (A,) * 9),
    ("upon", [A, A]), ("upon", A, A), ("beside", ()), ("beside", (A,) * 9), ("beside", (A, None)), ("grid", 2, 2),
    ("grid", 0, 1, A), ("grid", 1, 0, A), ("grid", True, 1, A), ("grid", 1, 1, A, A), ("grid", 1, A), ("Turn", A),
    chain_of(13, "turn"), chain_of(13, "upon"), chain_of(39, "grid"), plan_of(61), ("turn", ("turn", ("kind", 3))),
]


def mate_of(x):
    return (x[0], -x[1], x[2])


def contrary(d, x):
    return number_of(pair_over(d, UNIT, pair_of(x)))


def kinds_for(d):
    """Kinds alike, contraries, with mates of one sign and of both, one to three."""
    above, below = some_shapes(d, d, 4, 1), some_shapes(d, d, 4, -1)
    return [
        (num(1),), (num(0, 1),), (num(7, 0, 3),), tuple(above[:3]), tuple(below[:3]), (above[0], below[0]),
        (below[1], above[1], above[2]), (above[0], above[0]), (below[0],) * 3, (above[0], contrary(d, above[0])),
        (below[0], contrary(d, below[0]), num(1)), (num(FORTY, 0, 7), num(1, FORTY, FORTY + 2), num(1, 0, FORTY)),
    ]


class ShapeOfTest(unittest.TestCase):
    def check(self, d, kinds, plan):
        """To the number; the mate is that of the shape; the plan turned has the contrary."""
        kept = copy.deepcopy((kinds, plan))
        shape = shape_of(d, kinds, plan)
        self.assertEqual(shape, shape_by_pairs(d, kinds, plan))
        self.assertEqual(mate_shape(d, kinds, plan), mate_of(shape))
        if size_of(plan)[0] < 60 and size_of(plan)[1] < 12:
            self.assertEqual(shape_of(d, kinds, ("turn", plan)), contrary(d, shape))
            self.assertEqual(mate_shape(d, kinds, ("turn", plan)), mate_of(contrary(d, shape)))
        self.assertEqual((kinds, plan), kept)

    def told(self, d, kinds, plan, wanted):
        self.assertEqual(shape_of(d, kinds, plan), wanted)
        self.assertEqual(mate_shape(d, kinds, plan), mate_of(wanted))

    def test_a_kind(self):
        kinds = (num(1, 1), num(3, 0, 2), num(5, -1, 7))
        for plan, kind in zip((A, B, C), kinds):
            self.told(2, kinds, plan, kind)

    def test_turn(self):
        self.told(2, (num(1, 1),), ("turn", A), num(-1, 1))
        self.told(2, (num(3, 0, 2),), ("turn", A), num(2, 0, 3))
        self.told(2, (num(0, 1),), ("turn", A), num(0, 1, 2))
        self.told(2, (num(1, 1),), ("turn", ("turn", A)), num(1, 1))

    def test_upon(self):
        kinds = (num(1, 1), num(3, 0, 2))
        self.told(2, kinds, ("upon", (A, A)), num(2, 2))
        self.told(2, kinds, ("upon", (A, B)), num(5, 2, 2))
        self.told(2, kinds, ("upon", (A, ("turn", A))), num(0, 2))
        self.told(2, kinds, ("upon", (B,) * 8), num(12))
        self.told(2, kinds, ("upon", (A, B, A, B, A)), num(6, 3))

    def test_beside(self):
        kinds = (num(1, 1), num(3, 0, 2))
        self.told(2, kinds, ("beside", (A, A)), num(1, 1, 2))
        # 1 over (r - 1 + 2/3).
        self.told(2, kinds, ("beside", (A, B)), num(3, 9, 17))
        self.told(2, kinds, ("beside", (B,) * 8), num(3, 0, 16))
        self.told(2, kinds, ("beside", (A, ("turn", A))), num(0, 1, 4))

    def test_grid(self):
        kinds = (num(1, 1), num(3, 0, 2))
        self.told(2, kinds, ("grid", 1, 1, A), num(1, 1))
        self.told(2, kinds, ("grid", 3, 1, A), num(1, 1, 3))
        self.told(2, kinds, ("grid", 1, 3, A), num(3, 3))
        self.told(2, kinds, ("grid", 4, 6, B), num(9, 0, 4))
        self.told(2, kinds, ("grid", GREAT, 10 ** 59, ("turn", A)), num(-10 ** 59, 10 ** 59, GREAT))

    def test_a_grid_is_plans_upon_and_beside(self):
        for d in ROOTS[::3]:
            for kinds in kinds_for(d):
                for u in range(2, 5):
                    for v in range(2, 5):
                        rows = ("upon", (("beside", (A,) * u),) * v)
                        columns = ("beside", (("upon", (A,) * v),) * u)
                        wanted = shape_of(d, kinds, ("grid", u, v, A))
                        self.told(d, kinds, rows, wanted)
                        self.told(d, kinds, columns, wanted)

    def test_each_sort(self):
        for d in ROOTS:
            for kinds in kinds_for(d):
                for plan in SORTS:
                    self.check(d, kinds, plan)

    def test_twelve_within_one_another(self):
        for d in ROOTS[::3]:
            for kinds in kinds_for(d):
                for sort in ("turn", "grid", "upon", "beside"):
                    for depth in (2, 5, 11, 12):
                        self.check(d, kinds, chain_of(depth, sort, ("kind", len(kinds) - 1)))
                plan = A
                for depth in range(2, 13):
                    plan = [("turn", plan), ("upon", (A, plan)), ("grid", 2, 3, plan),
                            ("beside", (plan, A, A))][depth % 4]
                    self.check(d, kinds, plan)

    def test_sixty_in_all(self):
        for d in ROOTS[::4]:
            for kinds in kinds_for(d)[:8]:
                self.check(d, kinds, plan_of(60, ("kind", len(kinds) - 1)))

    def test_many(self):
        signs = set()
        for seed in range(150):
            d = ROOTS[seed % len(ROOTS)]
            for kinds in kinds_for(d)[seed % 3::3]:
                self.check(d, kinds, some_plan(seed, len(kinds)))
                signs.add(tuple(sorted({mate_sign(d, kind) for kind in kinds})))
        self.assertEqual(signs, {(1,), (-1,), (-1, 1)})

    def test_turned_and_together(self):
        for seed in range(60):
            d = ROOTS[seed % len(ROOTS)]
            kinds = kinds_for(d)[3 + seed % 9]
            one, other = [some_plan(2 * seed + at, len(kinds), most=25, deepest=8) for at in (0, 1)]
            first, second = shape_of(d, kinds, one), shape_of(d, kinds, other)
            together = pair_plus(pair_of(first), pair_of(second))
            self.told(d, kinds, ("upon", (one, other)), number_of(together))
            self.told(d, kinds, ("upon", (other, one)), number_of(together))
            beside = pair_plus(pair_of(contrary(d, first)), pair_of(contrary(d, second)))
            self.told(d, kinds, ("beside", (one, other)), contrary(d, number_of(beside)))
            self.told(d, kinds, ("turn", ("upon", (("turn", one), ("turn", other)))), contrary(d, number_of(beside)))
            self.told(d, kinds, ("turn", ("turn", one)), first)

    def test_kinds_by_their_places(self):
        kinds = (num(2), num(0, 1), num(3, 1, 4))
        plan = ("upon", (A, ("beside", (B, C))))
        for order in [(0, 1, 2), (1, 2, 0), (2, 0, 1), (2, 1, 0)]:
            others = tuple(kinds[place] for place in order)
            self.check(2, others, plan)
        self.assertEqual(shape_of(2, kinds, B), shape_of(2, kinds[:2], B))
        self.assertEqual(shape_of(2, kinds, A), shape_of(2, kinds[:1], A))

    def test_mates_near_nought_of_both_signs(self):
        # 3 - 2r, 7 - 5r and 17 - 12r are near 0; their sums come nearer, but never to it.
        kinds = (num(3, 2), num(7, 5), num(17, 12))
        for plan in [("upon", (A, B)), ("beside", (A, B)), ("upon", (A, B, B)), ("upon", (A, B, B, C)),
                     ("beside", (A, B, C)), ("upon", (A, ("turn", B))), ("grid", 7, 5, ("upon", (A, B, B, C, C)))]:
            self.check(2, kinds, plan)


class CountOfTest(unittest.TestCase):
    def test_by_hand(self):
        for plan, wanted in [(A, 1), (B, 1), (C, 1), (("turn", C), 1), (("upon", (A, B)), 2), (("upon", (A,) * 8), 8),
                             (("beside", (A, B, C)), 3), (("grid", 1, 1, A), 1), (("grid", 3, 2, A), 6),
                             (("grid", 7, 1, ("upon", (A, B))), 14), (("turn", ("grid", 5, 5, A)), 25),
                             (("upon", (("grid", 2, 3, A), B, ("beside", (A, ("grid", 1, 9, C))))), 17),
                             (("grid", 2, 3, ("grid", 5, 7, ("grid", 11, 13, A))), 30030)]:
            self.assertEqual(count_of(plan), wanted)

    def test_great_grids(self):
        self.assertEqual(count_of(("grid", GREAT, FORTY, A)), GREAT * FORTY)
        self.assertEqual(count_of(("upon", (("grid", GREAT, 2, A), ("grid", 3, FORTY, B), C))),
                         2 * GREAT + 3 * FORTY + 1)
        plan, wanted = ("upon", (A, B)), 2
        for depth in range(10):
            plan, wanted = ("grid", GREAT, FORTY + depth, plan), wanted * GREAT * (FORTY + depth)
        self.assertEqual(count_of(plan), wanted)

    def test_many(self):
        for seed in range(200):
            plan = some_plan(seed, 3)
            kept = copy.deepcopy(plan)
            self.assertEqual(count_of(plan), tiles_by_sums(plan))
            self.assertEqual(plan, kept)
        for many in range(1, 61):
            self.assertEqual(count_of(plan_of(many)), tiles_by_sums(plan_of(many)))
        for sort in ("turn", "grid", "upon", "beside"):
            self.assertEqual(count_of(chain_of(12, sort)), tiles_by_sums(chain_of(12, sort)))

    def test_whole_numbers(self):
        for plan in SORTS:
            self.assertIs(count_of(plan).__class__, int)


class RefusalsTest(unittest.TestCase):
    def refused(self, error, deed, *things):
        kept = copy.deepcopy(things)
        with self.assertRaises(FloorError) as taken:
            deed(*things)
        self.assertIs(taken.exception.__class__, error)
        self.assertEqual(things, kept)
        self.assertEqual(shape_of(2, (num(1, 1),), ("upon", (A, A))), num(2, 2))
        self.assertEqual(mate_shape(2, (num(1, 1),), ("upon", (A, A))), num(2, -2))
        self.assertEqual(count_of(("upon", (A, A))), 2)

    def test_no_kinds(self):
        for kinds in NO_KINDS:
            with self.subTest(str(kinds)[:60]):
                for deed in (shape_of, mate_shape):
                    self.refused(NoKinds, deed, 2, kinds, A)
                    self.refused(NoKinds, deed, 2, kinds, ("turn", C))

    def test_no_plan(self):
        for thing in NO_PLANS:
            with self.subTest(str(thing)[:60]):
                for kinds in [(num(1),), (num(1), num(0, 1)), (num(1), num(2), num(3, 1))]:
                    self.refused(NoPlan, shape_of, 2, kinds, thing)
                    self.refused(NoPlan, mate_shape, 2, kinds, thing)
                self.refused(NoPlan, count_of, thing)

    def test_odd_things_within(self):
        plan = ("turn", ("upon", (A, ("grid", 1, 4, ("beside", (A, A))))))
        kinds = (num(1), num(2), num(3))
        for path in all_paths(plan):
            for odd in [None, "", (), [], True, -1, (A,), list(A), ("kind", None)]:
                if odd == at_path(plan, path) and odd is not True:
                    continue
                thing = put_at(plan, path, odd)
                self.refused(NoPlan, shape_of, 2, kinds, thing)
                self.refused(NoPlan, mate_shape, 2, kinds, thing)
                self.refused(NoPlan, count_of, thing)

    def test_a_kind_that_is_not_there(self):
        one, two = (num(1),), (num(1), num(0, 1))
        for deed in (shape_of, mate_shape):
            for wrap in (lambda plan: plan, lambda plan: ("turn", plan), lambda plan: ("upon", (A, plan)),
                         lambda plan: ("beside", (plan, A)), lambda plan: ("grid", 2, 3, plan)):
                self.refused(NoPlan, deed, 2, one, wrap(B))
                self.refused(NoPlan, deed, 2, one, wrap(C))
                self.refused(NoPlan, deed, 2, two, wrap(C))
                self.assertEqual(deed(2, two, wrap(B))[2] > 0, True)

    def test_no_kinds_ahead_of_no_plan(self):
        for kinds in NO_KINDS[::4]:
            for thing in NO_PLANS[::6]:
                self.refused(NoKinds, shape_of, 2, kinds, thing)
                self.refused(NoKinds, mate_shape, 2, kinds, thing)

    def test_kinds_by_the_root_told_beside(self):
        for d in ROOTS:
            for deed in (shape_of, mate_shape):
                if d > 4:
                    self.assertEqual(deed(d, (num(-2, 1),), A)[0], -2)
                else:
                    with self.assertRaises(NoKinds):
                        deed(d, (num(-2, 1),), A)

    def test_quickly_refused(self):
        plan = A
        for depth in range(39):
            plan = ("beside", (plan,) * 8)
        # Not copied here, since a copy would walk it all.
        for deed in (shape_of, mate_shape):
            with self.assertRaises(NoPlan):
                deed(2, (num(1),), plan)
        with self.assertRaises(NoPlan):
            count_of(plan)


if __name__ == "__main__":
    unittest.main()
