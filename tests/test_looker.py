"""Points 3 and 21: the looker takes a claim with its right paper, and nothing else."""

import copy
import random
import unittest

from matefloors.errors import FloorError, NoKinds
from matefloors.looker import holds
from matefloors.mixtures import mixture_of
from matefloors.numbers import over
from matefloors.plans import shape_of
from matefloors.spots import laid_out
from matefloors.squares import squares_of
from matefloors.wishes import wish_told
from tests.bar_samples import is_right_bar, some_shapes
from tests.lay_samples import number_plus, number_times, rank
from tests.plan_samples import A, B, C, chain_of, plan_of, some_plan, tiles_by_sums
from tests.samples import (FORTY, NO_KINDS, NO_NUMBERS, NOT_ABOVE, PINWHEEL, RIGHT_KINDS, ROOTS, SIXTY,
                           floor_of, num, some_laying)
from tests.wish_samples import contrary_of, kinds_of_both_signs, kinds_of_one_sign

ONE, NOUGHT = num(1), num(0)
KINDS = (num(1, 1), num(3, 0, 2))
PLAN = ("upon", (A, ("turn", B), ("grid", 2, 3, A)))
SHAPE = shape_of(2, KINDS, PLAN)
LAYING = laid_out(2, KINDS, PLAN, num(2))
BARRED = (num(2, 1), ONE)
BAR_SHAPE = num(3, 2)
BAR = wish_told(2, BARRED, BAR_SHAPE)[1]
# Each is kinds, a claim, and a paper that bears it out.
RIGHT = [
    (KINDS, ("laid", SHAPE), ("plan", PLAN)),
    (KINDS, ("laid", SHAPE), ("laying", LAYING)),
    (BARRED, ("barred", BAR_SHAPE), BAR),
    (KINDS, ("mixed", 0, num(1, 3)), (num(2), ONE)),
    (KINDS, ("mixed", 1, num(13, 0, 6)), (ONE, ONE)),
    (KINDS, ("squares", num(7), num(3)), [2, 3]),
]
ODD = [None, True, False, 0, 1, -1, 2, 3, FORTY, "", "laid", "plan", (), [], (1,), [1], num(1), num(5), NOUGHT, num(-1),
       (2, 0, 2), list(num(1)), "a", ("kind", 0), PINWHEEL, (ONE, ONE), [[]], ((),)]


def paths_in(thing):
    """The way to every place within tuples and lists."""
    yield ()
    if isinstance(thing, (tuple, list)):
        for at, part in enumerate(thing):
            for path in paths_in(part):
                yield (at,) + path


def part_at(thing, path):
    for at in path:
        thing = thing[at]
    return thing


def with_part(thing, path, other):
    """The same thing with another one at a place."""
    if not path:
        return other
    parts = list(thing)
    parts[path[0]] = with_part(parts[path[0]], path[1:], other)
    return parts if isinstance(thing, list) else tuple(parts)


def is_number_form(thing):
    if thing.__class__ is not tuple or len(thing) != 3 or any(part.__class__ is not int for part in thing):
        return False
    return thing[2] > 0 and num(*thing) == thing


def alike(one, other):
    """Alike down to whether things are truths, tuples and lists."""
    if isinstance(one, (tuple, list)):
        return one.__class__ is other.__class__ and len(one) == len(other) and all(map(alike, one, other))
    return one.__class__ is other.__class__ and one == other


class HoldsTest(unittest.TestCase):
    def check(self, d, kinds, claim, paper, wanted):
        kept = copy.deepcopy((kinds, claim, paper))
        self.assertIs(holds(d, kinds, claim, paper), wanted)
        self.assertTrue(alike((kinds, claim, paper), kept))

    def test_right_papers(self):
        for kinds, claim, paper in RIGHT:
            with self.subTest(claim):
                self.check(2, kinds, claim, paper, True)

    def test_another_claims_paper(self):
        for kinds, claim, paper in RIGHT:
            for others, other, its_paper in RIGHT:
                wanted = claim == other and kinds == others
                self.check(2, kinds, claim, its_paper, wanted)

    def test_another_claims_word(self):
        for kinds, claim, paper in RIGHT:
            for word in ("laid", "barred", "mixed", "squares", "plan", "laying", "bar", "", "Laid", "laid ", None, 0,
                         ()):
                if word != claim[0]:
                    self.check(2, kinds, (word,) + claim[1:], paper, False)

    def wanted_otherwise(self, kinds, claim, paper):
        """A bar otherwise may bar all the same, another shape too; of the other claims nothing else is right."""
        if claim.__class__ is not tuple or claim[:1] != ("barred",) or len(claim) != 2:
            return False
        if paper.__class__ is not tuple or len(paper) != 2 or paper[1].__class__ is not tuple or len(paper[1]) != 4:
            return False
        if not all(is_number_form(x) for x in (claim[1], paper[0]) + paper[1]):
            return False
        return rank(2, claim[1], NOUGHT) > 0 and is_right_bar(2, kinds, claim[1], paper)

    def test_odd_things_at_any_place(self):
        for kinds, claim, paper in RIGHT:
            both = (claim, paper)
            for path in paths_in(both):
                for odd in ODD:
                    if path and not alike(odd, part_at(both, path)):
                        claimed, shown = with_part(both, path, odd)
                        self.check(2, kinds, claimed, shown, self.wanted_otherwise(kinds, claimed, shown))

    def test_a_number_otherwise(self):
        for kinds, claim, paper in RIGHT:
            both = (claim, paper)
            for path in paths_in(both):
                part = part_at(both, path)
                if isinstance(part, int):
                    for other in (part + 1, part - 1, -part - 3, part + FORTY):
                        claimed, shown = with_part(both, path, other)
                        self.check(2, kinds, claimed, shown, self.wanted_otherwise(kinds, claimed, shown))

    def test_lists_for_tuples(self):
        for kinds, claim, paper in RIGHT:
            both = (claim, paper)
            for path in paths_in(both):
                part = part_at(both, path)
                if path and isinstance(part, tuple):
                    claimed, shown = with_part(both, path, list(part))
                    self.check(2, kinds, claimed, shown, False)
                    for longer in (part + (ONE,), part[:-1], part[1:], part + part, (part,)):
                        claimed, shown = with_part(both, path, longer)
                        if (claimed, shown) != both:
                            self.check(2, kinds, claimed, shown, False)

    def test_odd_claims_and_papers(self):
        for odd in ODD + NO_NUMBERS + [("laid",), ("laid", SHAPE, SHAPE), ["laid", SHAPE], ("laid", "plan"), "laid"]:
            for kinds, claim, paper in RIGHT:
                self.check(2, kinds, odd, paper, False)
                self.check(2, kinds, odd, odd, False)
                if not alike(odd, paper):
                    self.check(2, kinds, claim, odd, False)

    def test_no_shape(self):
        for shape in NO_NUMBERS + NOT_ABOVE:
            for kinds, claim, paper in RIGHT:
                self.check(2, kinds, claim[:-1] + (shape,), paper, False)
            self.check(2, KINDS, ("squares", shape, num(3)), [2, 3], False)
            self.check(2, KINDS, ("laid", shape), ("plan", shape), False)

    def test_no_kinds(self):
        for kinds in RIGHT_KINDS:
            self.check(2, kinds, ("laid", ONE), ("plan", A), True)
        for kinds in NO_KINDS:
            for claim, paper in [(("laid", ONE), ("plan", A)), (None, None), (("squares", ONE, ONE), [1]),
                                 (("barred", NOUGHT), ()), ([], "")]:
                kept = copy.deepcopy((kinds, claim, paper))
                with self.assertRaises(FloorError) as taken:
                    holds(2, kinds, claim, paper)
                self.assertIs(taken.exception.__class__, NoKinds)
                self.assertTrue(alike((kinds, claim, paper), kept))


class LaidTest(unittest.TestCase):
    def check(self, d, kinds, claim, paper, wanted):
        self.assertIs(holds(d, kinds, claim, paper), wanted)

    def test_plans(self):
        for seed in range(60):
            d = ROOTS[seed % len(ROOTS)]
            kinds = (kinds_of_one_sign(d) + kinds_of_both_signs(d))[seed % 38]
            plan = some_plan(seed, len(kinds), most=30)
            shape = shape_of(d, kinds, plan)
            self.check(d, kinds, ("laid", shape), ("plan", plan), True)
            self.check(d, kinds, ("laid", contrary_of(d, shape)), ("plan", ("turn", plan)), True)
            self.check(d, kinds, ("laid", number_plus(shape, num(1, 0, FORTY))), ("plan", plan), False)
            self.check(d, kinds, ("laid", (shape[0], -shape[1], shape[2])), ("plan", plan), shape[1] == 0)
            self.check(d, kinds, ("laid", shape), ("laying", plan), False)
            self.check(d, kinds, ("laid", shape), plan, False)

    def test_plans_at_the_bounds(self):
        kinds = (num(1, 1),)
        for plan, wanted in [(chain_of(12, "turn"), True), (chain_of(13, "turn"), False), (chain_of(12, "upon"), True),
                             (chain_of(13, "upon"), False), (chain_of(12, "grid"), True), (chain_of(13, "grid"), False),
                             (plan_of(60), True), (plan_of(61), False), (("upon", (A,) * 8), True),
                             (("upon", (A,) * 9), False), (("beside", (A,) * 8), True), (("beside", (A,) * 9), False),
                             (("upon", (A,)), False), (("grid", FORTY, 10 ** 59, A), True), (("grid", 0, 1, A), False)]:
            shape = ONE
            if wanted:
                shape = shape_of(2, kinds, plan)
            elif plan[0] == "upon" and set(plan[1]) == {A}:
                shape = number_times(2, kinds[0], num(len(plan[1])))
            elif plan == chain_of(13, "turn"):
                shape = kinds[0]
            self.check(2, kinds, ("laid", shape), ("plan", plan), wanted)

    def test_kinds_that_are_not_there(self):
        kinds = (num(1, 1), num(2), num(3))
        for many in (1, 2, 3):
            for place, plan in enumerate((A, B, C)):
                self.check(2, kinds[:many], ("laid", kinds[place]), ("plan", plan), place < many)

    def test_layings(self):
        for laying, kinds in [(PINWHEEL, (ONE, num(2))), (PINWHEEL, (num(1, 0, 2), ONE)), (SIXTY, (ONE,)),
                              (LAYING, KINDS)]:
            shape = over(2, laying[1], laying[0])
            self.check(2, kinds, ("laid", shape), ("laying", laying), True)
            self.check(2, kinds, ("laid", shape), ("plan", laying), False)
            self.check(2, kinds, ("laid", shape), laying, False)
            self.check(2, kinds, ("laid", number_times(2, shape, num(2))), ("laying", laying), False)
            self.check(2, (num(5),), ("laid", shape), ("laying", laying), False)
        self.check(2, (ONE,), ("laid", ONE), ("laying", PINWHEEL), False)
        self.check(2, (num(2),), ("laid", ONE), ("laying", PINWHEEL), False)

    def test_layings_at_random(self):
        for seed in range(40):
            d = ROOTS[seed % len(ROOTS)]
            laying = some_laying(d, 900 + seed, 1 + seed % 3)
            kinds = tuple(over(d, tile[3], tile[2]) for tile in laying[2])
            shape = over(d, laying[1], laying[0])
            self.check(d, kinds, ("laid", shape), ("laying", laying), True)
            self.check(d, tuple(contrary_of(d, kind) for kind in kinds), ("laid", shape), ("laying", laying), True)
            self.check(d, kinds, ("laid", contrary_of(d, shape)), ("laying", laying), shape == contrary_of(d, shape))
            broken = (laying[0], laying[1], laying[2][1:])
            self.check(d, kinds, ("laid", shape), ("laying", broken), False)
            wrong = (laying[0], laying[1], laying[2][:-1] + (laying[2][-1][:3] + (num(FORTY),),))
            self.check(d, kinds, ("laid", shape), ("laying", wrong), False)

    def test_layings_at_the_bounds(self):
        for many, wanted in [(60, True), (61, False)]:
            laying = floor_of(many, 1, *[(x, 0, 1, 1) for x in range(many)])
            self.check(2, (ONE,), ("laid", num(1, 0, many)), ("laying", laying), wanted)

    def test_what_is_told_is_let_by(self):
        for d in ROOTS[::2]:
            for kinds in kinds_of_one_sign(d) + kinds_of_both_signs(d):
                for shape in [ONE, num(0, 1)] + some_shapes(d, d, 2, 1) + some_shapes(d, d, 2, -1):
                    word, thing = wish_told(d, kinds, shape)
                    laid = word == "plan"
                    self.check(d, kinds, ("laid", shape), (word, thing), laid)
                    self.check(d, kinds, ("barred", shape), thing, not laid)
                    if laid and tiles_by_sums(thing) <= 12:
                        laying = laid_out(d, kinds, thing, num(1, 1))
                        self.check(d, kinds, ("laid", shape), ("laying", laying), True)


class BarredTest(unittest.TestCase):
    def test_bars(self):
        for d in ROOTS:
            bars = []
            for kinds in kinds_of_one_sign(d):
                for shape in [ONE, num(0, 1)] + some_shapes(d, 7 * d, 2, 1) + some_shapes(d, 7 * d, 2, -1):
                    word, thing = wish_told(d, kinds, shape)
                    if word == "bar":
                        bars.append((kinds, shape, thing))
            chance = random.Random(d)
            for kinds, shape, bar in bars[::3]:
                self.assertIs(holds(d, kinds, ("barred", shape), bar), True)
                self.assertIs(holds(d, kinds, ("barred", shape), ("bar", bar)), False)
                self.assertIs(holds(d, (shape,), ("barred", shape), bar), False)
                others, other, another = chance.choice(bars)
                self.assertIs(holds(d, kinds, ("barred", shape), another), is_right_bar(d, kinds, shape, another))


class MixedTest(unittest.TestCase):
    def check(self, d, kinds, claim, paper, wanted):
        self.assertIs(holds(d, kinds, claim, paper), wanted)

    def test_mixtures(self):
        for d in ROOTS:
            for kinds in kinds_of_one_sign(d)[::2]:
                for place, kind in enumerate(kinds):
                    for shape in [ONE, num(0, 1)] + some_shapes(d, 9 * d, 2, 1) + some_shapes(d, 9 * d, 2, -1):
                        told = mixture_of(d, kind, shape)
                        if told[0] == "bar":
                            self.check(d, kinds, ("mixed", place, shape), told[1], False)
                            continue
                        word, u, v = told
                        self.check(d, kinds, ("mixed", place, shape), (u, v), True)
                        self.check(d, kinds, ("mixed", place, shape), [u, v], False)
                        self.check(d, kinds, ("mixed", place, shape), told, False)
                        for paper in [(number_plus(u, num(1, 0, FORTY)), v), (u, number_plus(v, num(1, 0, FORTY))),
                                      (u,), (u, v, v), (u[0], v[0])]:
                            self.check(d, kinds, ("mixed", place, shape), paper, False)
                        swapped = number_plus(number_times(d, v, kind), number_times(d, u, contrary_of(d, kind)))
                        self.check(d, kinds, ("mixed", place, shape), (v, u), swapped == shape)

    def test_v_need_not_be_nought(self):
        # The kind 2: u times 2 and v over 2.
        for u, v, wanted in [(num(3), NOUGHT, True), (num(2), num(4), True), (NOUGHT, num(12), True),
                             (num(5, 0, 2), num(2), True), (num(11, 0, 4), ONE, True), (num(3), ONE, False),
                             (num(4), num(-4), False), (num(-1), num(16), False)]:
            self.check(2, (num(2),), ("mixed", 0, num(6)), (u, v), wanted)
        # The kind r, the root of 2: u times r and v times r over 2.
        for u, v, wanted in [(ONE, NOUGHT, True), (NOUGHT, num(2), True), (num(1, 0, 2), ONE, True), (ONE, ONE, False)]:
            self.check(2, (num(0, 1),), ("mixed", 0, num(0, 1)), (u, v), wanted)

    def test_no_fractions_not_below_nought(self):
        kind = num(1, 1)
        # 1 + r is 1 of itself; so are r times (1 + r) and -1 of the contrary, 2 + r less (r - 1) ..: no fractions.
        for u, v in [(num(0, 1), num(-1)), (num(0, 1), num(1, -1)), (num(2), num(-3, -2)), (num(-1), num(6, 4)),
                     (NOUGHT, num(3, 2)), (num(3, -2), num(4, 2))]:
            shape = number_plus(number_times(2, u, kind), number_times(2, v, num(-1, 1)))
            self.check(2, (kind,), ("mixed", 0, shape), (u, v), False)

    def test_places(self):
        kinds = (num(1, 1), num(1, 1), num(1, 1))
        for many in (1, 2, 3):
            for place in [-3, -1, 0, 1, 2, 3, True, False, None, "0", num(0), (0,), FORTY]:
                wanted = place in (0, 1, 2) and not isinstance(place, bool) and place < many
                self.check(2, kinds[:many], ("mixed", place, num(1, 1)), (ONE, NOUGHT), wanted)

    def test_nothing_of_both(self):
        self.check(2, (ONE,), ("mixed", 0, NOUGHT), (NOUGHT, NOUGHT), False)
        self.check(2, (ONE,), ("mixed", 0, ONE), (NOUGHT, NOUGHT), False)


class SquaresTest(unittest.TestCase):
    def check(self, width, height, paper, wanted):
        self.assertIs(holds(2, (num(1, 1),), ("squares", width, height), paper), wanted)

    def test_counts(self):
        for width in range(1, 12):
            for height in range(1, 12):
                counts = squares_of(2, num(width), num(height))[1]
                self.check(num(width), num(height), counts, True)
                self.check(num(0, width), num(0, height), counts, True)
                self.check(num(width, 0, 7), num(height, 0, 7), counts, True)
                for other in [counts + [1], counts[:-1], counts[1:], [0] + counts, counts + [0], counts[::-1] + [2],
                              [-counts[0]] + counts[1:], counts[:-1] + [counts[-1] + 1], tuple(counts), (counts,),
                              [counts], ("squares", counts), [(many, 0, 1) for many in counts], [str(counts[0])]]:
                    self.check(num(width), num(height), other, False)
                if counts[-1] > 1:
                    # The same fraction's other writing.
                    self.check(num(width), num(height), counts[:-1] + [counts[-1] - 1, 1], False)

    def test_truths_are_no_counts(self):
        self.check(ONE, ONE, [1], True)
        self.check(ONE, ONE, [True], False)
        self.check(num(3), num(2), [1, 2], True)
        self.check(num(3), num(2), [True, 2], False)
        self.check(num(3), num(2), [1, 2, False], False)

    def test_no_fraction(self):
        for paper in ([1], [1, 2], [], [1, 2, 2, 2], None, ()):
            self.check(ONE, num(0, 1), paper, False)
            self.check(num(1, 1), num(2), paper, False)
            self.check(num(0, 1), ONE, paper, False)
        self.check(num(1, 1), num(2, 2), [2], True)

    def test_no_numbers_above_nought(self):
        for thing in NO_NUMBERS + NOT_ABOVE:
            for paper in ([1], [], thing):
                self.check(thing, ONE, paper, False)
                self.check(ONE, thing, paper, False)
                self.check(thing, thing, paper, False)

    def test_great_counts(self):
        self.check(num(FORTY), ONE, [FORTY], True)
        self.check(num(FORTY), ONE, [FORTY + 1], False)
        self.check(ONE, num(FORTY ** 50), [FORTY ** 50], True)
        one, other = FORTY ** 3 + 1, FORTY ** 3
        self.check(num(one), num(other), [1, other], True)
        self.check(num(one), num(other), [1, other, 1], False)


if __name__ == "__main__":
    unittest.main()
