"""Points 3, 18 and 19: mixtures of one kind and its contrary, and their plans."""

import copy
import random
import unittest
from fractions import Fraction

from matefloors.bars import is_bar
from matefloors.errors import FloorError, NoNumber
from matefloors.mixtures import mixture_of, plan_of_mixture
from matefloors.plans import is_plan, shape_of
from tests.bar_samples import is_right_bar, lean, mate_sign, some_shapes
from tests.lay_samples import number_over, number_plus, number_times, tiny
from tests.plan_samples import A, B, C, shape_by_pairs, some_plan
from tests.samples import FORTY, NO_NUMBERS, NOT_ABOVE, ROOTS, TWO_HUNDRED, TWO_THOUSAND, num

NOUGHT, ONE = num(0), num(1)


def mixed(d, kind, u, v):
    """u times the kind and v times its contrary together."""
    return number_plus(number_times(d, u, kind), number_times(d, v, number_over(d, ONE, kind)))


def fraction(share):
    return num(share.numerator, 0, share.denominator)


def some_fraction(chance):
    most = chance.choice([1, 3, 50, 10 ** 12])
    return fraction(Fraction(chance.randint(1, most), chance.randint(1, most)))


def kinds_of(d):
    return [num(1), num(0, 1), num(7, 0, 3), num(0, 5, 9)] + some_shapes(d, d, 5, 1) + some_shapes(d, d, 5, -1)


def is_square_fraction(d, kind):
    return number_times(d, kind, kind)[1] == 0


class MixtureTest(unittest.TestCase):
    def check(self, d, kind, shape):
        """A mixture that comes to the shape, fractions not below 0, or a right bar."""
        kept = copy.deepcopy((kind, shape))
        told = mixture_of(d, kind, shape)
        self.assertIs(told.__class__, tuple)
        self.assertEqual((kind, shape), kept)
        if told[0] == "mixture":
            word, u, v = told
            self.assertEqual(mixed(d, kind, u, v), shape)
            for share in (u, v):
                self.assertEqual(share, num(share[0], 0, share[2]))
                self.assertTrue(share[0] >= 0 and share[2] >= 1)
            self.assertEqual(v == NOUGHT or not is_square_fraction(d, kind), True)
            return True
        word, bar = told
        self.assertEqual(word, "bar")
        self.assertIs(is_bar(d, (kind,), shape, bar), True)
        self.assertTrue(is_right_bar(d, (kind,), shape, bar))
        return False

    def test_by_hand(self):
        half = num(1, 0, 2)
        for kind, shape, u, v in [(ONE, ONE, ONE, NOUGHT), (ONE, num(7, 0, 3), num(7, 0, 3), NOUGHT),
                                  (num(1, 1), num(1, 1), ONE, NOUGHT), (num(1, 1), num(-1, 1), NOUGHT, ONE),
                                  (num(1, 1), num(0, 1), half, half), (num(2, 1), ONE, num(1, 0, 4), half),
                                  (num(1, 1), num(1, 3), num(2), ONE), (num(0, 1), num(0, 7, 9), num(7, 0, 9), NOUGHT),
                                  (num(0, 1), num(0, 1, 2), half, NOUGHT), (num(3), half, num(1, 0, 6), NOUGHT)]:
            self.assertEqual(mixture_of(2, kind, shape), ("mixture", u, v))

    def test_barred_by_hand(self):
        for kind, shape in [(ONE, num(0, 1)), (ONE, num(1, 1)), (ONE, num(2, 1)), (num(0, 1), ONE),
                            (num(0, 1), num(1, 1)),
                            (num(1, 1), ONE), (num(1, 1), num(4, 3)), (num(1, 1), num(2, 1)), (num(2, 1), num(1, 1)),
                            (num(2, 1), num(3, 2)), (num(2, 1), num(0, 1)), (num(1, 1), num(5, 4))]:
            with self.subTest((kind, shape)):
                self.assertIs(self.check(2, kind, shape), False)

    def test_mixtures_are_found(self):
        chance = random.Random(71)
        for d in ROOTS:
            for kind in kinds_of(d):
                for turn in range(6):
                    u, v = some_fraction(chance), some_fraction(chance)
                    for one, other in [(u, v), (u, NOUGHT), (NOUGHT, v)]:
                        shape = mixed(d, kind, one, other)
                        told = mixture_of(d, kind, shape)
                        if is_square_fraction(d, kind):
                            self.assertEqual(told, ("mixture", number_over(d, shape, kind), NOUGHT))
                        else:
                            self.assertEqual(told, ("mixture", one, other))

    def test_just_where_neither_share_is_below_nought(self):
        chance = random.Random(72)
        for d in ROOTS[::2]:
            for kind in kinds_of(d):
                if is_square_fraction(d, kind):
                    continue
                for turn in range(6):
                    u, v = some_fraction(chance), some_fraction(chance)
                    for one, other in [((-u[0], 0, u[2]), v), (u, (-v[0], 0, v[2]))]:
                        shape = mixed(d, kind, one, other)
                        if mate_sign(d, (shape[0], -shape[1], shape[2])) > 0:
                            self.assertIs(self.check(d, kind, shape), False)

    def test_just_by_the_lean(self):
        seen = set()
        for d in ROOTS:
            shapes = [num(2), num(0, 3)] + some_shapes(d, 100 + d, 12, 1) + some_shapes(d, 100 + d, 12, -1)
            for kind in kinds_of(d):
                for shape in shapes:
                    same = mate_sign(d, kind) == mate_sign(d, shape)
                    wanted = same and abs(lean(d, shape)) <= abs(lean(d, kind))
                    seen.add((mate_sign(d, kind), mate_sign(d, shape), wanted))
                    self.assertIs(self.check(d, kind, shape), wanted)
        self.assertEqual(seen, {(1, 1, True), (1, 1, False), (-1, -1, True), (-1, -1, False), (1, -1, False),
                                (-1, 1, False)})

    def test_just_beside(self):
        for d in ROOTS:
            for kind in kinds_of(d):
                contrary = number_over(d, ONE, kind)
                for edge in (kind, contrary):
                    other = contrary if edge == kind else kind
                    for small in (num(1, 0, FORTY), num(1, 0, FORTY ** 3)):
                        inner = number_plus(edge, number_times(d, small, other))
                        self.assertIs(self.check(d, kind, inner), True)
                        if not is_square_fraction(d, kind):
                            outer = number_plus(edge, number_times(d, (-small[0], 0, small[2]), other))
                            self.assertIs(self.check(d, kind, outer), False)
                    self.assertIs(self.check(d, kind, edge), True)
                if is_square_fraction(d, kind):
                    for share in (num(FORTY - 1, 1, FORTY), num(FORTY + 1, -1, FORTY), number_plus(ONE, tiny(d))):
                        self.assertIs(self.check(d, kind, number_times(d, kind, share)), False)

    def test_squares(self):
        # A square is laid by one kind just where the kind's mate is above 0.
        for d in ROOTS:
            for kind in kinds_of(d) + some_shapes(d, 300 + d, 10, 1) + some_shapes(d, 300 + d, 10, -1):
                self.assertIs(self.check(d, kind, ONE), mate_sign(d, kind) > 0)
            for shape in kinds_of(d):
                self.assertIs(self.check(d, ONE, shape), shape[1] == 0)

    def test_turned_and_times_a_fraction(self):
        for d in ROOTS[::3]:
            for kind in kinds_of(d):
                for shape in kinds_of(d):
                    laid = self.check(d, kind, shape)
                    self.assertIs(self.check(d, number_over(d, ONE, kind), shape), laid)
                    self.assertIs(self.check(d, kind, number_over(d, ONE, shape)), laid)
                    self.assertIs(self.check(d, number_times(d, kind, num(3, 0, 7)), shape), laid)
                    self.assertIs(self.check(d, kind, number_times(d, shape, num(FORTY, 0, 11))), laid)

    def test_what_plans_lay(self):
        for seed in range(80):
            d = ROOTS[seed % len(ROOTS)]
            kind = kinds_of(d)[seed % 14]
            self.assertIs(self.check(d, kind, shape_by_pairs(d, (kind,), some_plan(seed, 1, most=25))), True)

    def test_great_numbers(self):
        kind = num(FORTY, FORTY - 3, FORTY + 2)
        for shape in [num(TWO_HUNDRED, 1, 3), num(1, TWO_HUNDRED), num(TWO_THOUSAND, 7, TWO_HUNDRED),
                      num(5, 1, TWO_THOUSAND), num(TWO_THOUSAND, TWO_THOUSAND - 1, TWO_THOUSAND + 2)]:
            told = mixture_of(5, kind, shape)
            if told[0] == "mixture":
                self.assertEqual(mixed(5, kind, told[1], told[2]), shape)
            else:
                self.assertIs(is_bar(5, (kind,), shape, told[1]), True)
        for u, v in [(num(FORTY, 0, 7), num(1, 0, FORTY)), (num(1, 0, TWO_HUNDRED), num(TWO_HUNDRED))]:
            self.assertEqual(mixture_of(5, kind, mixed(5, kind, u, v)), ("mixture", u, v))

    def test_the_same_answer_again(self):
        for kind, shape in [(num(1, 1), num(0, 1)), (num(1, 1), num(2, 1)), (ONE, num(0, 1))]:
            self.assertEqual(mixture_of(2, kind, shape), mixture_of(2, kind, shape))

    def test_no_number(self):
        for thing in NO_NUMBERS + NOT_ABOVE:
            with self.subTest(str(thing)[:60]):
                for kind, shape in [(thing, ONE), (ONE, thing), (thing, thing), (num(1, 1), thing), (thing, num(-1))]:
                    kept = copy.deepcopy((kind, shape))
                    with self.assertRaises(FloorError) as taken:
                        mixture_of(2, kind, shape)
                    self.assertIs(taken.exception.__class__, NoNumber)
                    self.assertEqual((kind, shape), kept)
        self.assertEqual(mixture_of(2, ONE, num(2)), ("mixture", num(2), NOUGHT))

    def test_by_the_root_told_beside(self):
        for d in ROOTS:
            for kind, shape in [(num(-2, 1), ONE), (ONE, num(-2, 1))]:
                if d > 4:
                    self.check(d, kind, shape)
                else:
                    with self.assertRaises(NoNumber):
                        mixture_of(d, kind, shape)


class PlanOfMixtureTest(unittest.TestCase):
    def test_one_of_the_two(self):
        for place, kind in enumerate((A, B, C)):
            turn = ("turn", kind)
            for share, wrap in [(ONE, lambda plan: plan), (num(3), lambda plan: ("grid", 1, 3, plan)),
                                (num(1, 0, 4), lambda plan: ("grid", 4, 1, plan)),
                                (num(7, 0, 5), lambda plan: ("grid", 5, 7, plan)),
                                (num(FORTY, 0, 7), lambda plan: ("grid", 7, FORTY, plan))]:
                self.assertEqual(plan_of_mixture(share, NOUGHT, place), wrap(kind))
                self.assertEqual(plan_of_mixture(NOUGHT, share, place), wrap(turn))

    def test_both(self):
        for place, kind in enumerate((A, B, C)):
            turn = ("turn", kind)
            for u, v, lower, upper in [
                    (ONE, ONE, kind, turn), (num(2), ONE, ("grid", 1, 2, kind), turn),
                    (ONE, num(2), kind, ("grid", 1, 2, turn)),
                    (num(1, 0, 2), num(3), ("grid", 2, 1, kind), ("grid", 1, 3, turn)),
                    (num(8, 0, 3), num(1, 0, 9), ("grid", 3, 8, kind), ("grid", 9, 1, turn))]:
                self.assertEqual(plan_of_mixture(u, v, place), ("upon", (lower, upper)))

    def test_its_shape_is_the_mixture(self):
        chance = random.Random(73)
        for d in ROOTS:
            for kind in kinds_of(d):
                for place in range(3):
                    u = chance.choice([NOUGHT, ONE, num(5), num(1, 0, 5), some_fraction(chance)])
                    v = chance.choice([NOUGHT, ONE, num(5), num(1, 0, 5), some_fraction(chance)])
                    if u == v == NOUGHT:
                        continue
                    plan = plan_of_mixture(u, v, place)
                    self.assertIs(is_plan(plan, place + 1), True)
                    kinds = (num(2), num(3), num(5))[:place] + (kind,)
                    self.assertEqual(shape_of(d, kinds, plan), mixed(d, kind, u, v))

    def test_great_fractions(self):
        u, v = num(TWO_THOUSAND, 0, TWO_HUNDRED), num(1, 0, TWO_THOUSAND)
        plan = plan_of_mixture(u, v, 0)
        self.assertEqual(plan, ("upon", (("grid", u[2], u[0], A), ("grid", TWO_THOUSAND, 1, ("turn", A)))))
        self.assertEqual(shape_of(2, (num(1, 1),), plan), mixed(2, num(1, 1), u, v))

    def test_a_mixture_that_is_told(self):
        for d in ROOTS[::2]:
            for kind in kinds_of(d):
                for shape in kinds_of(d):
                    told = mixture_of(d, kind, shape)
                    if told[0] == "mixture":
                        self.assertEqual(shape_of(d, (kind,), plan_of_mixture(told[1], told[2], 0)), shape)


if __name__ == "__main__":
    unittest.main()
