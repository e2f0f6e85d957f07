"""Points 3 and 20: of kinds and a shape a plan or a bar."""

import copy
import random
import unittest

from matefloors.bars import is_bar
from matefloors.errors import FloorError, NoKinds, NoNumber
from matefloors.layings import is_by, is_laying
from matefloors.leaning import lean_fraction
from matefloors.numbers import over
from matefloors.plans import count_of, is_plan, shape_of
from matefloors.spots import laid_out
from matefloors.wishes import is_laid, leans_most, wish_told
from tests.bar_samples import is_right_bar, lean, mate_sign, some_shapes
from tests.lay_samples import number_plus, number_times
from tests.plan_samples import shape_by_pairs, size_of, some_plan
from tests.samples import (FORTY, NO_KINDS, NO_NUMBERS, NOT_ABOVE, RIGHT_KINDS, ROOTS, TWO_HUNDRED, TWO_THOUSAND, num)
from tests.wish_samples import contrary_of, kinds_of_both_signs, kinds_of_forty_figures, kinds_of_one_sign, lays

ONE = num(1)


def shapes_for(d, seed, many=4):
    return [ONE, num(0, 1), num(5, 0, 7), num(0, 3, 4)] + some_shapes(d, seed, many, 1) + some_shapes(d, seed, many, -1)


class WishTest(unittest.TestCase):
    def check(self, d, kinds, shape):
        """One of the two is told, and it is right; which one, as the lean fractions have it."""
        kept = copy.deepcopy((kinds, shape))
        told = wish_told(d, kinds, shape)
        self.assertEqual((told.__class__, len(told)), (tuple, 2))
        word, thing = told
        laid = lays(d, kinds, shape)
        if word == "plan":
            self.assertIs(is_plan(thing, len(kinds)), True)
            self.assertEqual(shape_of(d, kinds, thing), shape)
            self.assertEqual(shape_by_pairs(d, kinds, thing), shape)
            many, depth = size_of(thing)
            self.assertTrue(many <= 60 and depth <= 12)
        else:
            self.assertEqual(word, "bar")
            self.assertIs(is_bar(d, kinds, shape, thing), True)
            self.assertTrue(is_right_bar(d, kinds, shape, thing))
        self.assertIs(word == "plan", laid)
        self.assertIs(is_laid(d, kinds, shape), laid)
        self.assertEqual((kinds, shape), kept)
        return laid

    def test_by_hand(self):
        for kinds, shape, wanted in [
                ((ONE,), num(3, 0, 7), True), ((ONE,), num(0, 1), False), ((ONE,), num(2, 1), False),
                ((num(0, 1),), num(0, 5), True), ((num(0, 1),), ONE, False), ((num(1, 1),), num(0, 1), True),
                ((num(1, 1),), ONE, False), ((num(2, 1),), ONE, True), ((num(2, 1),), num(3, 2), False),
                ((num(2, 1), num(3, 2)), num(3, 2), True), ((num(2, 1), num(3, 2)), num(1, 1), False),
                ((num(2, 1), num(0, 1)), num(3, 2), True), ((ONE, num(0, 1)), num(577, 408), True),
                ((ONE, num(0, 1)), num(577, -408), True), ((ONE, num(0, 1)), num(-7, 5), True)]:
            with self.subTest((kinds, shape)):
                self.assertIs(self.check(2, kinds, shape), wanted)

    def test_kinds_with_mates_of_one_sign(self):
        seen = {True: 0, False: 0}
        for d in ROOTS:
            for kinds in kinds_of_one_sign(d):
                for shape in shapes_for(d, 40 + d):
                    seen[self.check(d, kinds, shape)] += 1
        self.assertTrue(min(seen.values()) > 500, seen)

    def test_kinds_with_mates_of_both_signs(self):
        for d in ROOTS:
            for kinds in kinds_of_both_signs(d):
                for shape in shapes_for(d, 50 + d) + [num(FORTY), num(1, 0, FORTY), num(FORTY, FORTY - 1),
                                                      contrary_of(d, num(FORTY, FORTY - 1))]:
                    self.assertIs(self.check(d, kinds, shape), True)

    def test_each_kind_and_its_contrary(self):
        for d in ROOTS:
            for kinds in kinds_of_one_sign(d) + kinds_of_both_signs(d) + kinds_of_forty_figures(d):
                for kind in kinds:
                    self.assertIs(self.check(d, kinds, kind), True)
                    self.assertIs(self.check(d, kinds, contrary_of(d, kind)), True)

    def test_at_the_edge_and_just_beside(self):
        for d in ROOTS:
            for kinds in kinds_of_one_sign(d):
                kind = kinds[leans_most(d, kinds)]
                other = contrary_of(d, kind)
                for edge, inward in [(kind, other), (other, kind)]:
                    for factor in (ONE, num(FORTY, 0, 7)):
                        self.assertIs(self.check(d, kinds, number_times(d, edge, factor)), True)
                    for small in (num(1, 0, 10 ** 9), num(1, 0, FORTY ** 2)):
                        away = (-small[0], 0, small[2])
                        self.assertIs(self.check(d, kinds, number_plus(edge, number_times(d, inward, small))), True)
                        if lean(d, kind) not in (0, 4):
                            beyond = number_plus(edge, number_times(d, inward, away))
                            self.assertIs(self.check(d, kinds, beyond), False)
                        else:
                            bent = num(10 ** 9, small[0], 10 ** 9)
                            self.assertIs(self.check(d, kinds, number_times(d, edge, bent)), False)

    def test_forty_figures(self):
        for d in ROOTS:
            for kinds in kinds_of_forty_figures(d):
                for shape in shapes_for(d, 60 + d, 2) + [num(FORTY, 1, FORTY - 1), num(7, FORTY, 3), num(1, 0, FORTY)]:
                    self.check(d, kinds, shape)

    def test_great_shapes(self):
        for d in (2, 5, 30):
            for shape in [num(TWO_HUNDRED, 1, 7), num(1, TWO_HUNDRED, 3), num(1, 0, TWO_THOUSAND),
                          num(TWO_THOUSAND, TWO_THOUSAND - 3, TWO_HUNDRED)]:
                for kinds in [(num(FORTY, 1, 3),), (num(1, FORTY),), (num(FORTY, 1, 3), num(1, FORTY - 2, 9))]:
                    word, thing = wish_told(d, kinds, shape)
                    self.assertIs(is_laid(d, kinds, shape), word == "plan")
                    if word == "plan":
                        self.assertEqual(shape_of(d, kinds, thing), shape)
                    else:
                        self.assertIs(is_bar(d, kinds, shape, thing), True)

    def test_one_kind_more_never_bars(self):
        chance = random.Random(81)
        freed = 0
        for d in ROOTS:
            pool = [kind for kinds in kinds_of_one_sign(d) for kind in kinds]
            for kinds in kinds_of_one_sign(d):
                for shape in shapes_for(d, 70 + d, 3):
                    laid = is_laid(d, kinds, shape)
                    for more in chance.sample(pool, 2):
                        for at in range(len(kinds) + 1):
                            others = (kinds[:at] + (more,) + kinds[at:])[:3]
                            if set(kinds) <= set(others):
                                now = is_laid(d, others, shape)
                                self.assertTrue(now or not laid)
                                freed += now and not laid
        self.assertGreater(freed, 100)

    def test_kinds_turned_or_times_a_fraction_lay_the_same(self):
        for d in ROOTS[::2]:
            for kinds in kinds_of_one_sign(d) + kinds_of_both_signs(d):
                turned = tuple(contrary_of(d, kind) for kind in kinds)
                times = tuple(number_times(d, kind, num(5, 0, at + 2)) for at, kind in enumerate(kinds))
                for shape in shapes_for(d, 80 + d, 2):
                    laid = self.check(d, kinds, shape)
                    for others in (turned, times, kinds[::-1], (turned[0],) + kinds[1:]):
                        self.assertIs(self.check(d, others, shape), laid)
                    self.assertIs(self.check(d, kinds, contrary_of(d, shape)), laid)
                    self.assertIs(self.check(d, kinds, number_times(d, shape, num(8, 0, 3))), laid)

    def test_sums_of_what_is_laid_are_laid(self):
        for d in ROOTS[::2]:
            for kinds in kinds_of_one_sign(d):
                laid = [shape for shape in shapes_for(d, 90 + d) if is_laid(d, kinds, shape)] + list(kinds)
                for one, other in zip(laid, laid[1:] + laid[:1]):
                    self.assertIs(self.check(d, kinds, number_plus(one, other)), True)
                    self.assertIs(self.check(d, kinds, number_plus(contrary_of(d, one), other)), True)

    def test_what_plans_lay_is_laid(self):
        for seed in range(120):
            d = ROOTS[seed % len(ROOTS)]
            kinds = (kinds_of_one_sign(d) + kinds_of_both_signs(d))[seed % 38]
            plan = some_plan(seed, len(kinds), most=30, deepest=8)
            self.assertIs(self.check(d, kinds, shape_of(d, kinds, plan)), True)

    def test_what_is_laid_can_be_laid_out(self):
        tried = 0
        for d in ROOTS:
            for kinds in kinds_of_one_sign(d)[5:] + kinds_of_both_signs(d):
                for shape in shapes_for(d, 95 + d, 2):
                    word, plan = wish_told(d, kinds, shape)
                    if word == "plan" and count_of(plan) <= 20:
                        laying = laid_out(d, kinds, plan, num(2))
                        self.assertIs(is_laying(d, laying), True)
                        self.assertIs(is_by(d, laying, kinds), True)
                        self.assertEqual(over(d, laying[1], laying[0]), shape)
                        tried += 1
        self.assertGreater(tried, 20)

    def test_squares(self):
        for d in ROOTS:
            for kinds in kinds_of_one_sign(d):
                self.assertIs(self.check(d, kinds, ONE), mate_sign(d, kinds[0]) > 0)

    def test_the_same_answer_again(self):
        for d in ROOTS[::6]:
            for kinds in kinds_of_one_sign(d) + kinds_of_both_signs(d):
                for shape in shapes_for(d, 99, 2):
                    self.assertEqual(wish_told(d, kinds, shape), wish_told(d, kinds, shape))


class LeansMostTest(unittest.TestCase):
    def wanted(self, d, kinds):
        if len({mate_sign(d, kind) for kind in kinds}) == 2:
            return None
        leans = [lean(d, kind) for kind in kinds]
        return leans.index(max(leans) if mate_sign(d, kinds[0]) > 0 else min(leans))

    def test_by_hand(self):
        flat, bent, steep = ONE, num(2, 1), num(3, 2)
        for kinds, wanted in [((flat,), 0), ((flat, bent), 1), ((bent, flat), 0), ((flat, bent, steep), 2),
                              ((steep, bent, flat), 0), ((bent, steep, flat), 1), ((bent, contrary_of(2, bent)), 0),
                              ((flat, bent, number_times(2, bent, num(7, 0, 3))), 1), ((num(5), num(7), flat), 0),
                              ((num(0, 1), num(1, 1)), 1), ((num(1, 1), num(0, 1)), 0), ((num(0, 1), num(0, 3)), 0),
                              ((num(1, 1), num(4, 3)), 1), ((num(4, 3), num(1, 1), num(4, 3)), 0),
                              ((flat, num(0, 1)), None), ((num(1, 1), bent), None), ((flat, bent, num(0, 1)), None),
                              ((num(1, 1), num(0, 1), flat), None)]:
            with self.subTest(kinds):
                self.assertEqual(leans_most(2, kinds), wanted)

    def test_many(self):
        seen = set()
        for d in ROOTS:
            for kinds in kinds_of_one_sign(d) + kinds_of_both_signs(d) + kinds_of_forty_figures(d):
                for others in (kinds, kinds[::-1], kinds[1:] + kinds[:1]):
                    kept = copy.deepcopy(others)
                    told = leans_most(d, others)
                    self.assertEqual(told, self.wanted(d, others))
                    self.assertEqual(others, kept)
                    self.assertIn(told.__class__, (int, None.__class__))
                    seen.add(told)
        self.assertEqual(seen, {0, 1, 2, None})

    def test_as_the_lean_fractions_tell(self):
        for d in ROOTS:
            for kinds in kinds_of_one_sign(d):
                place = leans_most(d, kinds)
                for kind in kinds:
                    one, other = lean_fraction(d, kinds[place]), lean_fraction(d, kind)
                    self.assertGreaterEqual(abs(one[0]) * other[2], abs(other[0]) * one[2])

    def test_what_the_one_alone_lays(self):
        for d in ROOTS[::2]:
            for kinds in kinds_of_one_sign(d):
                alone = (kinds[leans_most(d, kinds)],)
                for shape in shapes_for(d, 110 + d, 3):
                    self.assertIs(is_laid(d, alone, shape), is_laid(d, kinds, shape))


class RefusalsTest(unittest.TestCase):
    def refused(self, error, deed, *things):
        kept = copy.deepcopy(things)
        with self.assertRaises(FloorError) as taken:
            deed(2, *things)
        self.assertIs(taken.exception.__class__, error)
        self.assertEqual(things, kept)
        self.assertEqual(wish_told(2, (num(1, 1),), num(1, 1)), ("plan", ("kind", 0)))
        self.assertIs(is_laid(2, (ONE,), num(0, 1)), False)
        self.assertEqual(leans_most(2, (ONE, num(2, 1))), 1)

    def test_no_kinds(self):
        for kinds in RIGHT_KINDS:
            self.assertIs(is_laid(2, kinds, ONE), True)
        for kinds in NO_KINDS:
            with self.subTest(str(kinds)[:60]):
                self.refused(NoKinds, wish_told, kinds, ONE)
                self.refused(NoKinds, is_laid, kinds, ONE)
                self.refused(NoKinds, leans_most, kinds)

    def test_no_shape(self):
        for shape in NO_NUMBERS + NOT_ABOVE:
            with self.subTest(str(shape)[:60]):
                for kinds in [(ONE,), (num(1, 1), num(2)), (ONE, num(0, 1))]:
                    self.refused(NoNumber, wish_told, kinds, shape)
                    self.refused(NoNumber, is_laid, kinds, shape)

    def test_no_kinds_ahead_of_no_number(self):
        for kinds in NO_KINDS[::4]:
            for shape in NO_NUMBERS[::6] + NOT_ABOVE[:3]:
                self.refused(NoKinds, wish_told, kinds, shape)
                self.refused(NoKinds, is_laid, kinds, shape)

    def test_by_the_root_told_beside(self):
        for d in ROOTS:
            for kinds, shape, error in [((num(-2, 1),), ONE, NoKinds), ((ONE,), num(-2, 1), NoNumber)]:
                for deed in (wish_told, is_laid):
                    if d > 4:
                        deed(d, kinds, shape)
                    else:
                        with self.assertRaises(error):
                            deed(d, kinds, shape)


if __name__ == "__main__":
    unittest.main()
