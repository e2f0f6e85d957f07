"""Points 3 and 10: weights never below 0, and bars."""

import copy
import random
import unittest
from fractions import Fraction

from matefloors.bars import is_bar, never_below
from matefloors.errors import FloorError, NoKinds, NoNumber
from matefloors.layings import is_by, shapes_in
from matefloors.numbers import over
from matefloors.weighing import weighed_sums
from tests.bar_samples import (UNIT, is_never_below, is_right_bar, lean, made_bar, mate_sign, some_shapes)
from tests.samples import (FORTY, NO_KINDS, NO_NUMBERS, NOT_ABOVE, PINWHEEL, RIGHT_KINDS, ROOTS, SIXTY, TWO_HUNDRED,
                           TWO_THOUSAND, num, number_of, pair_of, pair_over, pair_times, root_fractions,
                           some_laying, some_numbers)

HAIR = num(1, 0, TWO_HUNDRED)
BELOW = num(-1, 0, TWO_HUNDRED)
ONE = num(1)
NOUGHT = num(0)
SKEW = (NOUGHT, num(1), num(-1), NOUGHT)
KINDS = (num(1),)
SHAPE = num(0, 1)
BAR = (num(1), SKEW)


def contrary(d, x):
    return number_of(pair_over(d, UNIT, pair_of(x)))


def barred_questions(d, seed, many):
    """Kinds with mates of one sign, a shape that they don't lay, and a bar."""
    chance = random.Random(seed)
    found = []
    while len(found) < many:
        mates = chance.choice([1, -1])
        shapes = some_shapes(d, chance.randint(0, 10 ** 6), 8, mates)
        kinds = tuple(chance.sample(shapes, chance.choice([1, 2, 3])))
        shape = chance.choice(shapes + some_shapes(d, chance.randint(0, 10 ** 6), 3, -mates))
        leans_more = max(mates * lean(d, kind) for kind in kinds) < mates * lean(d, shape)
        if mate_sign(d, shape) != mates or leans_more:
            found.append((kinds, shape, made_bar(d, kinds, shape)))
    return found


def laid_questions(d, seed, many):
    """Kinds, and a shape that the first one lays: fractions of it and of its contrary together."""
    chance = random.Random(seed)
    for at in range(many):
        kinds = tuple(some_shapes(d, chance.randint(0, 10 ** 6), chance.choice([1, 2, 3]), chance.choice([1, -1])))
        u, v = chance.choice([(1, 0), (0, 1), (1, 1), (Fraction(2, 3), Fraction(1, 5)), (Fraction(1, 7), 4)])
        kind, turned = pair_of(kinds[0]), pair_of(contrary(d, kinds[0]))
        yield kinds, number_of((u * kind[0] + v * turned[0], u * kind[1] + v * turned[1]))


class NeverBelowTest(unittest.TestCase):
    def check(self, d, weights, kind, wanted):
        kept = copy.deepcopy((weights, kind))
        self.assertIs(never_below(d, weights, kind), wanted)
        self.assertEqual((weights, kind), kept)

    def test_first_just_at_nought(self):
        for d in ROOTS:
            for kind in (num(1), num(0, 1), num(7, 1), num(1, 1), num(1, 0, FORTY)):
                self.check(d, (NOUGHT,) * 4, kind, True)
                self.check(d, (HAIR, NOUGHT, NOUGHT, NOUGHT), kind, True)
                self.check(d, (BELOW, NOUGHT, NOUGHT, NOUGHT), kind, False)
                self.check(d, (num(0, 1), NOUGHT, NOUGHT, NOUGHT), kind, True)
                self.check(d, (num(0, -1), NOUGHT, NOUGHT, NOUGHT), kind, False)

    def test_last_just_at_nought(self):
        for d in ROOTS:
            above = [num(1), num(7, 1), num(7, -1), num(1, 0, 3)]
            below = [num(0, 1), num(1, 1), num(-1, 1), num(0, 1, 9)]
            for kind, mates in [(kind, 1) for kind in above] + [(kind, -1) for kind in below]:
                self.assertEqual(mate_sign(d, kind), mates)
                self.check(d, (NOUGHT, NOUGHT, NOUGHT, HAIR), kind, mates > 0)
                self.check(d, (NOUGHT, NOUGHT, NOUGHT, BELOW), kind, mates < 0)
                self.check(d, (num(1), NOUGHT, NOUGHT, HAIR), kind, mates > 0)
                self.check(d, (num(1), NOUGHT, NOUGHT, BELOW), kind, mates < 0)
                self.check(d, (num(1), NOUGHT, NOUGHT, NOUGHT), kind, True)

    def test_middle_with_nought_beside(self):
        for kind in (num(1), num(2, 0, 3)):
            self.check(2, SKEW, kind, True)
            self.check(2, (NOUGHT, num(1), num(1), NOUGHT), kind, False)
            self.check(2, (NOUGHT, num(1), NOUGHT, NOUGHT), kind, False)
            self.check(2, (NOUGHT, HAIR, NOUGHT, NOUGHT), kind, False)
            self.check(2, (NOUGHT, NOUGHT, BELOW, NOUGHT), kind, False)
            self.check(2, (num(9), HAIR, NOUGHT, NOUGHT), kind, False)
            self.check(2, (NOUGHT, HAIR, NOUGHT, num(9)), kind, False)
        self.check(2, SKEW, num(0, 1), False)
        self.check(2, (NOUGHT, num(1), num(1), NOUGHT), num(0, 1), True)
        # B is 0 for the kind, not for its contrary: upright alone.
        self.check(2, (NOUGHT, num(2, 1), num(-2, 1), NOUGHT), num(2, 1), True)
        self.check(2, (NOUGHT, num(2, 1), num(-2, 1), NOUGHT), contrary(2, num(2, 1)), False)

    def test_middle_just_at_its_bound(self):
        for a, c in [(1, 1), (4, 1), (1, 9), (4, 9)]:
            b = num(2 * int((a * c) ** 0.5))
            for middle in (b, (-b[0], 0, 1)):
                self.check(3, (num(a), middle, NOUGHT, num(c)), ONE, True)
                self.check(3, (num(a), NOUGHT, middle, num(c)), ONE, True)
                self.check(3, (num(a), num(middle[0], 0, 2), num(middle[0], 0, 2), num(c)), ONE, True)
            beside = num(b[0] * FORTY + 1, 0, FORTY)
            for middle in (beside, (-beside[0], 0, beside[2])):
                self.check(3, (num(a), middle, NOUGHT, num(c)), ONE, False)
                self.check(3, (num(a), NOUGHT, middle, num(c)), ONE, False)
            within = num(b[0] * FORTY - 1, 0, FORTY)
            self.check(3, (num(a), within, NOUGHT, num(c)), ONE, True)

    def test_at_its_bound_with_a_root(self):
        # For the kind 2 + r, r the root of 2, the mate is 2 - r: B is -2r, B times B 8, and 4 A C is 8.
        kind = num(2, 1)
        for skew in (1, -1):
            self.check(2, (num(1), num(skew), num(-skew), num(1)), kind, True)
            self.check(2, (num(1), num(skew), num(-skew), num(FORTY - 1, 0, FORTY)), kind, False)
            self.check(2, (num(FORTY - 1, 0, FORTY), num(skew), num(-skew), num(1)), kind, False)
            self.check(2, (num(FORTY + 1, 0, FORTY), num(skew), num(-skew), num(1)), kind, True)
            self.check(2, (num(-1), num(skew), num(-skew), num(-1)), kind, False)
        # For the kind 1 + r the mate is below 0: B is 2, B times B 4, and 4 A C is 4.
        kind = num(1, 1)
        for sum_sign in (1, -1):
            self.check(2, (num(1), num(sum_sign), num(sum_sign), num(-1)), kind, True)
            self.check(2, (num(1), num(sum_sign), num(sum_sign), num(1 - FORTY, 0, FORTY)), kind, False)
            self.check(2, (num(1), num(sum_sign), num(sum_sign), num(-1 - FORTY, 0, FORTY)), kind, True)
            self.check(2, (num(1), num(sum_sign), num(sum_sign), num(1)), kind, False)

    def test_very_near(self):
        for d in ROOTS:
            (low, low_part), (high, high_part) = root_fractions(d, 40)
            # With the kind 1 and q alone, q times q beside 4 d.
            self.check(d, (num(1), num(2 * low, 0, low_part), NOUGHT, num(d)), ONE, True)
            self.check(d, (num(1), num(2 * high, 0, high_part), NOUGHT, num(d)), ONE, False)
            self.check(d, (num(1), num(0, 2), NOUGHT, num(d)), ONE, True)
            self.check(d, (num(high, -high_part), NOUGHT, NOUGHT, NOUGHT), ONE, True)
            self.check(d, (num(low, -low_part), NOUGHT, NOUGHT, NOUGHT), ONE, False)

    def test_many(self):
        chance = random.Random(31)
        seen = set()
        for d in ROOTS:
            kinds = some_shapes(d, d, 6, 1) + some_shapes(d, d, 6, -1)
            small = [num(a, b, c) for a in (-2, 0, 1, 3) for b in (-1, 0, 1) for c in (1, 2)]
            for turn in range(60):
                weights = [chance.choice(small) for at in range(4)]
                if turn % 2:
                    weights[0] = num(chance.randint(0, 9), chance.randint(0, 3))
                    weights[3] = num(chance.choice([-9, 9]), chance.randint(0, 2))
                kind = chance.choice(kinds)
                wanted = is_never_below(d, weights, kind)
                seen.add((wanted, mate_sign(d, kind)))
                self.check(d, tuple(weights), kind, wanted)
        self.assertEqual(len(seen), 4)


class IsBarTest(unittest.TestCase):
    def check(self, d, kinds, shape, thing, wanted):
        kept = copy.deepcopy((kinds, shape, thing))
        self.assertIs(is_bar(d, kinds, shape, thing), wanted)
        self.assertEqual((kinds, shape, thing), kept)

    def test_by_hand(self):
        self.check(2, KINDS, SHAPE, BAR, True)
        self.check(2, KINDS, num(0, 1, 2), BAR, True)
        self.check(2, KINDS, num(2, -1), BAR, False)
        self.check(2, KINDS, num(2, -1), (num(1), (NOUGHT, num(-1), num(1), NOUGHT)), True)
        # The width's mate is below 0, so the sign is turned.
        self.check(2, KINDS, num(2, -1), (num(0, 1), SKEW), True)
        self.check(2, KINDS, SHAPE, (num(0, 1), SKEW), False)
        self.check(2, KINDS, num(3, 0, 2), BAR, False)
        self.check(2, (num(3, 0, 2), num(7)), SHAPE, BAR, True)
        self.check(2, (num(3, 0, 2), num(7), SHAPE), SHAPE, BAR, False)
        self.check(2, (num(2, 1),), num(0, 1), (num(1), (NOUGHT, NOUGHT, NOUGHT, num(1))), True)
        self.check(2, (num(0, 1),), num(2, 1), (num(1), (NOUGHT, NOUGHT, NOUGHT, num(-1))), True)
        self.check(2, (num(0, 1),), num(2), (num(1), (NOUGHT, NOUGHT, NOUGHT, num(-1))), True)

    def test_just_below_nought(self):
        # With the weights p, q, s, t and the kind 1: the square itself has the weighed product 0, no bar.
        flat = (num(1), num(-1), num(-1), num(1))
        self.check(2, KINDS, num(1), (num(1), flat), False)
        for d in ROOTS:
            (low, low_part), (high, high_part) = root_fractions(d, 30)
            tiny = num(1, 1, FORTY)
            for shape in (number_of((1 + Fraction(tiny[0], FORTY), Fraction(1, FORTY))), num(high, -high_part)):
                skew = 1 if shape[1] > 0 else -1
                self.check(d, KINDS, shape, (num(1), (NOUGHT, num(skew), num(-skew), NOUGHT)), True)
                self.check(d, KINDS, shape, (num(1), (NOUGHT, num(-skew), num(skew), NOUGHT)), False)

    def test_at_the_bound_of_a_kind(self):
        # For the kind 2 + r, r the root of 2, p times t may be 1 beside q and s of 1 and -1, no less.
        kinds, shape, width = (num(2, 1),), num(3, 2), num(3, -1)
        for first, last in [(num(1), num(1)), (num(1, 0, 2), num(2)), (num(2), num(1, 0, 2))]:
            bar = (width, (first, num(1), num(-1), last))
            self.check(2, kinds, shape, bar, is_right_bar(2, kinds, shape, bar))
            for many in (FORTY, FORTY * FORTY):
                less = num(first[0] * (many - 1), 0, first[2] * many)
                self.check(2, kinds, shape, (width, (less, num(1), num(-1), last)), False)
                less = num(last[0] * (many - 1), 0, last[2] * many)
                self.check(2, kinds, shape, (width, (first, num(1), num(-1), less)), False)
        self.check(2, kinds, num(10, 7), (num(1), (num(1, 0, 2), num(1), num(-1), num(2))), True)

    def test_kinds_upright_and_turned(self):
        # B is 0 for the kind, not for its contrary, or the other way round.
        width = num(1)
        for kind in (num(2, 1), contrary(2, num(2, 1))):
            for weights in [(NOUGHT, num(2, 1), num(-2, 1), NOUGHT), (NOUGHT, num(2, -1), num(-2, -1), NOUGHT)]:
                for signed in (weights, tuple((-a, -b, c) for a, b, c in weights)):
                    for shape in (num(1), num(0, 1), num(5, -3), num(9, 4)):
                        self.check(2, (kind,), shape, (width, signed), False)

    def test_one_to_three_kinds(self):
        for d in ROOTS:
            for kinds, shape, bar in barred_questions(d, d, 12):
                with self.subTest((d, kinds, shape)):
                    self.assertTrue(is_right_bar(d, kinds, shape, bar))
                    self.check(d, kinds, shape, bar, True)
                    self.check(d, kinds[::-1], shape, bar, True)

    def test_kinds_alike_and_contrary(self):
        for d in ROOTS[::2]:
            for kinds, shape, bar in barred_questions(d, 50 + d, 8):
                kind = kinds[0]
                for others in [(kind,), (kind, kind), (kind, kind, kind), (contrary(d, kind),),
                               (kind, contrary(d, kind)), (contrary(d, kind), kind, contrary(d, kind)),
                               tuple(contrary(d, other) for other in kinds)]:
                    self.check(d, others, shape, bar, True)

    def test_any_one_kind_may_break_it(self):
        for d in ROOTS[::3]:
            for kinds, shape, bar in barred_questions(d, 90 + d, 6):
                for others in [(shape,), (shape, kinds[0]), (kinds[0], shape), (kinds[0], kinds[0], shape),
                               (kinds[0], shape, kinds[0]), (kinds[0], contrary(d, shape))]:
                    self.check(d, others, shape, bar, False)

    def test_never_for_kinds_with_mates_of_both_signs(self):
        chance = random.Random(41)
        for d in ROOTS[::2]:
            above, below = some_shapes(d, d, 5, 1), some_shapes(d, d, 5, -1)
            for kinds, shape, bar in barred_questions(d, 130 + d, 8):
                for other in (chance.choice(above), chance.choice(below)):
                    both = kinds[:2] + (other,)
                    if len({mate_sign(d, kind) for kind in both}) == 2:
                        self.check(d, both, shape, bar, False)
                        self.check(d, both[::-1], shape, bar, False)
            numbers = some_numbers(d, 40)
            for turn in range(30):
                bar = (num(1, chance.randint(0, 3)), tuple(chance.choice(numbers + [NOUGHT] * 40) for at in range(4)))
                self.check(d, (above[0], below[0]), chance.choice(above + below), bar, False)

    def test_never_for_a_shape_that_is_laid(self):
        chance = random.Random(51)
        for d in ROOTS[::2]:
            bars = [bar for kinds, shape, bar in barred_questions(d, 170 + d, 10)] + [BAR]
            for kinds, shape in laid_questions(d, d, 12):
                for bar in bars:
                    self.check(d, kinds, shape, bar, False)
                width = num(1, chance.randint(0, 4), 3)
                weights = tuple(num(chance.randint(-3, 3), chance.randint(-1, 1)) for at in range(4))
                self.check(d, kinds, shape, (width, weights), False)

    def test_never_for_a_floor_that_is_laid(self):
        for seed in range(30):
            d = ROOTS[seed % len(ROOTS)]
            laying = some_laying(d, 1000 + seed, 2 + seed % 2)
            kinds = tuple(shapes_in(d, laying))
            self.assertIs(is_by(d, laying, kinds), True)
            shape = over(d, laying[1], laying[0])
            for others, other, bar in barred_questions(d, seed, 6):
                self.check(d, kinds, shape, bar, False)
        for laying, kinds in [(PINWHEEL, (num(1), num(2))), (SIXTY, (num(1),))]:
            for others, other, bar in barred_questions(2, 99, 10):
                self.check(2, kinds, over(2, laying[1], laying[0]), bar, False)

    def test_what_is_laid_by_the_kinds_is_weighed_not_below_nought(self):
        for seed in range(20):
            d = ROOTS[seed]
            laying = some_laying(d, 1100 + seed, 3)
            kinds = tuple(shapes_in(d, laying))
            for others, other, (width, weights) in barred_questions(d, 200 + seed, 6):
                if all(is_never_below(d, weights, k) and is_never_below(d, weights, contrary(d, k)) for k in kinds):
                    floor, tiles = weighed_sums(d, weights, laying)
                    self.assertTrue(all(pair_sign(d, tile) >= 0 for tile in tiles + [floor]))

    def test_random_things_of_the_right_form(self):
        chance = random.Random(61)
        for d in ROOTS:
            for kinds, shape, (width, weights) in barred_questions(d, 240 + d, 6):
                for at in range(4):
                    other = list(weights)
                    other[at] = chance.choice([num(0), num(1), num(-1), num(1, 0, 9), num(-9), num(9), num(1, 1)])
                    thing = (width, tuple(other))
                    self.check(d, kinds, shape, thing, is_right_bar(d, kinds, shape, thing))
                for factor in (num(2), num(1, 0, 3), num(0, 1), num(7, -1)):
                    wide = number_of(pair_times(d, pair_of(width), pair_of(factor)))
                    self.check(d, kinds, shape, (wide, weights), is_right_bar(d, kinds, shape, (wide, weights)))

    def test_great_numbers(self):
        great = num(TWO_THOUSAND, 0, TWO_HUNDRED)
        root = num(1, TWO_THOUSAND, TWO_HUNDRED)
        minus = (-great[0], 0, great[2])
        self.check(5, KINDS, root, (great, (NOUGHT, great, minus, NOUGHT)), True)
        self.check(5, KINDS, root, (great, (NOUGHT, minus, great, NOUGHT)), False)
        self.check(5, (num(FORTY, 0, 7), num(1, 0, FORTY)), root, (great, (NOUGHT, great, minus, NOUGHT)), True)


def pair_sign(d, x):
    return mate_sign(d, (x[0], -x[1], x[2]))


class AnyThingTest(unittest.TestCase):
    def no_bar(self, thing):
        kept = copy.deepcopy(thing)
        self.assertIs(is_bar(2, KINDS, SHAPE, thing), False)
        self.assertEqual(thing, kept)
        self.assertIs(is_bar(2, KINDS, SHAPE, BAR), True)

    def test_any_thing(self):
        for thing in NO_NUMBERS + [num(1), num(0, 1), PINWHEEL, KINDS, SKEW, (num(1),), (num(1), num(1)),
                                   (SKEW, num(1)), (BAR,), (BAR, BAR)]:
            with self.subTest(str(thing)[:60]):
                self.no_bar(thing)

    def test_the_width(self):
        for width in NO_NUMBERS + NOT_ABOVE + [(2, 0, 2), (1, 0, -1), [1, 0, 1], ((1, 0, 1),), SKEW]:
            with self.subTest(str(width)[:60]):
                self.no_bar((width, SKEW))
        # Of a width below 0 the weighed product would be below 0 as well.
        self.no_bar((num(-1), SKEW))
        self.no_bar((num(-1, -1), tuple((-a, -b, c) for a, b, c in SKEW)))
        (low, low_part), (high, high_part) = root_fractions(2, 30)
        self.assertIs(is_bar(2, KINDS, SHAPE, (num(high, -high_part), SKEW)), True)
        self.no_bar((num(low, -low_part), (NOUGHT, num(-1), num(1), NOUGHT)))
        self.no_bar((num(low, -low_part), SKEW))

    def test_the_weights(self):
        for weights in NO_NUMBERS + [SKEW[:3], SKEW + (NOUGHT,), SKEW[1:], SKEW * 2, list(SKEW), (SKEW,), (list(SKEW),),
                                     num(1), "SKEW", (0, 1, -1, 0), tuple(SKEW[:3]) + (0,)]:
            with self.subTest(str(weights)[:60]):
                self.no_bar((num(1), weights))

    def test_odd_things_among_the_weights(self):
        for at in range(4):
            for odd in NO_NUMBERS + [tuple(2 * part for part in SKEW[at]), list(SKEW[at]), SKEW]:
                with self.subTest((at, str(odd)[:60])):
                    self.no_bar((num(1), SKEW[:at] + (odd,) + SKEW[at + 1:]))

    def test_odd_things_within_a_number(self):
        odd_parts = [odd for odd in NO_NUMBERS if isinstance(odd, bool) or not isinstance(odd, int)]
        for at in range(5):
            for part in range(3):
                for odd in odd_parts:
                    numbers = [num(1)] + list(SKEW)
                    numbers[at] = numbers[at][:part] + (odd,) + numbers[at][part + 1:]
                    self.no_bar((numbers[0], tuple(numbers[1:])))

    def test_lists_and_other_lengths(self):
        for thing in [list(BAR), BAR + (num(1),), BAR[:1], BAR[1:], (num(1),) + SKEW, (num(1), SKEW, SKEW),
                      (num(1), list(SKEW)), ([1, 0, 1], SKEW), (num(1), tuple(list(part) for part in SKEW)), (SKEW, 1)]:
            self.no_bar(thing)


class RefusalsTest(unittest.TestCase):
    def refused(self, error, kinds, shape, thing):
        kept = copy.deepcopy((kinds, shape, thing))
        with self.assertRaises(FloorError) as taken:
            is_bar(2, kinds, shape, thing)
        self.assertIs(taken.exception.__class__, error)
        self.assertEqual((kinds, shape, thing), kept)
        self.assertIs(is_bar(2, KINDS, SHAPE, BAR), True)
        self.assertIs(is_bar(2, KINDS, num(2), BAR), False)
        self.assertIs(never_below(2, SKEW, num(1)), True)

    def test_no_kinds(self):
        for kinds in RIGHT_KINDS:
            self.assertIs(is_bar(2, kinds, SHAPE, BAR), True)
        for kinds in NO_KINDS:
            with self.subTest(str(kinds)[:60]):
                self.refused(NoKinds, kinds, SHAPE, BAR)
                self.refused(NoKinds, kinds, SHAPE, None)

    def test_no_shape(self):
        for shape in NO_NUMBERS + NOT_ABOVE:
            with self.subTest(str(shape)[:60]):
                self.refused(NoNumber, KINDS, shape, BAR)
                self.refused(NoNumber, KINDS, shape, [])

    def test_no_kinds_ahead_of_no_number(self):
        for kinds in NO_KINDS[::4]:
            for shape in NO_NUMBERS[::6] + NOT_ABOVE[:3]:
                self.refused(NoKinds, kinds, shape, BAR)
                self.refused(NoKinds, kinds, shape, "")

    def test_by_the_root_told_beside(self):
        for d in ROOTS:
            for kinds, shape, error in [((num(-2, 1),), num(1), NoKinds), ((num(1),), num(-2, 1), NoNumber)]:
                if d > 4:
                    self.assertIn(is_bar(d, kinds, shape, BAR), (True, False))
                else:
                    with self.assertRaises(error):
                        is_bar(d, kinds, shape, BAR)


if __name__ == "__main__":
    unittest.main()
